"""Formats, and the first word in which two of them differ."""

from amidread.arrows import check_parts, is_record
from amidread.errors import BadFormat, BadRecord, BadWord, InvalidText, OtherLetters
from amidread.lines import line_of, parts_of
from amidread.ways import Walk, arrows_beside, backward_of, group_behind, tree_of, ways_of
from amidread.words import is_word

BOOK_KIND = "word"


class Format:
    """A finite machine that describes records and their kinds."""

    def __init__(self, letters, states, arrows):
        check_parts(letters, states, arrows)
        self.letters = letters
        self.states = states
        self.arrows = arrows
        self._ways = ways_of(arrows)

    @classmethod
    def of(cls, letters, records):
        """A format with just these records, one or more."""
        for record in records:
            if not is_record(letters, record):
                raise BadRecord(record)
        states, arrows = tree_of(records)
        return cls(letters, states, arrows)

    @classmethod
    def book(cls, letters, words):
        """A format of a book that is not empty."""
        seen = set()
        for word in words:
            if not is_word(letters, word) or word == "" or word in seen:
                raise BadWord(word)
            seen.add(word)
        return cls.of(letters, tuple([(word, BOOK_KIND) for word in words]))

    @classmethod
    def read(cls, text):
        """The format with a text, which may be any value."""
        letters, states, arrows = parts_of(text)
        try:
            return cls(letters, states, arrows)
        except BadFormat:
            raise InvalidText(len(arrows) + 2) from None

    @property
    def text(self):
        """The text of the format."""
        head = [f"letters {self.letters}", f"states {self.states}"]
        return "\n".join(head + [line_of(arrow) for arrow in self.arrows])

    @property
    def kinds(self):
        """The ascending tuple of the kinds of the records."""
        return tuple(sorted({arrow[3] for arrow in self.arrows if arrow[2] == 0}))

    def kinds_of(self, word):
        """The ascending tuple of the kinds with which a word is a record."""
        group = (0,)
        kinds = ()
        for letter in word:
            group, kinds = group_behind(self._ways, group, letter)
        return kinds

    def backward(self):
        """A format with the words of the records backwards, and the same kinds."""
        states, arrows = backward_of(self.arrows)
        return Format(self.letters, states, arrows)

    def __contains__(self, thing):
        return is_record(self.letters, thing) and thing[1] in self.kinds_of(thing[0])

    def __eq__(self, other):
        return (isinstance(other, Format) and self.letters == other.letters
                and self.states == other.states and self.arrows == other.arrows)

    def __or__(self, other):
        if self.letters != other.letters:
            raise OtherLetters()
        beside = arrows_beside(self.states, other.arrows)
        arrows = tuple(sorted(set(list(self.arrows) + beside)))
        return Format(self.letters, self.states + other.states - 1, arrows)


def parting(form, other):
    """The first word that does not have the same kinds in two formats, or None."""
    if form.letters != other.letters:
        raise OtherLetters()
    walk, other_walk = Walk(form._ways), Walk(other._ways)
    came = {((0,), (0,)): None}
    todo = [((0,), (0,))]
    done = 0
    # The pairs of groups are met in the order of the first words that lead to them.
    while done < len(todo):
        pair = todo[done]
        done += 1
        for letter in form.letters:
            group, kinds = walk.step(pair[0], letter)
            other_group, other_kinds = other_walk.step(pair[1], letter)
            if kinds != other_kinds:
                return word_to(came, pair) + letter
            if (group, other_group) not in came:
                came[(group, other_group)] = (pair, letter)
                todo.append((group, other_group))
    return None


def word_to(came, pair):
    """The letters on the way to a pair, where came tells each pair's (pair before, letter)."""
    letters = []
    while came[pair] is not None:
        pair, letter = came[pair]
        letters.append(letter)
    return "".join(letters[::-1])
