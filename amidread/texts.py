"""Texts: their letters and answers, and the ways in which words can be read."""

from amidread.arrows import is_record
from amidread.errors import NoReading, TwoReadings
from amidread.groups import BORDER, group_one_before, groups_before, is_in, words_along
from amidread.ways import Walk, group_behind, ways_of


def is_text(form, thing):
    """Whether any value is a text of a format."""
    if not isinstance(thing, tuple):
        return False
    walk = Walk(ways_of(form.arrows))
    for record in thing:
        if not is_record(form.letters, record) or record[1] not in kinds_along(walk, record[0]):
            return False
    return True


def kinds_along(walk, word):
    """The kinds with which a word is a record, for a walk through its format."""
    group, kinds = (0,), ()
    for letter in word:
        if not group:
            return ()
        group, kinds = walk.step(group, letter)
    return kinds


def letters_of(text):
    """The letters of a text."""
    return "".join([word for word, _ in text])


def answers_of(text):
    """The tuple of the answers at the places of a text."""
    told = []
    for word, kind in text:
        told.extend([""] * (len(word) - 1))
        told.append(kind)
    return tuple(told)


def text_with(letters, told):
    """The text with some letters and some answers."""
    records = []
    start = 0
    for place, kind in enumerate(told, start=1):
        if kind != "":
            records.append((letters[start:place], kind))
            start = place
    return tuple(records)


class Branch:
    """The records that begin at a place of a word, the lesser ones first, where the rest can be read, too."""

    def __init__(self, start):
        self.start = start
        self.end = start
        self.kind = ""
        self.other_kinds = []
        self.group = (0,)

    def advance(self, ways, word, lasting):
        """Goes to the next record, and tells whether there is one.

        lasting are the groups, place for place, from which the rest of the word leads to the border.
        """
        while self.group and not self.other_kinds:
            inner, kinds = group_behind(ways, self.group, word[self.end])
            self.end += 1
            self.group = tuple([state for state in inner if is_in(state, lasting[self.end])])
            self.other_kinds = list(kinds) if is_in(0, lasting[self.end]) else []
        if not self.other_kinds:
            return False
        self.kind = self.other_kinds.pop(0)
        return True


def readings(form, word):
    """Yields all texts with these letters, as Python sorts them."""
    ways = ways_of(form.arrows)
    lasting = groups_before(form.arrows, word, BORDER)
    if word == "":
        yield ()
    # Of two records that begin at one place, the shorter one is the beginning of the other, and less.
    branches = [Branch(0)] if word != "" else []
    while branches:
        if not branches[-1].advance(ways, word, lasting):
            branches.pop()
        elif branches[-1].end < len(word):
            branches.append(Branch(branches[-1].end))
        else:
            yield tuple([(word[branch.start:branch.end], branch.kind) for branch in branches])


def read(form, word):
    """The only text with these letters."""
    found = []
    for text in readings(form, word):
        if found:
            raise TwoReadings(found[0], text)
        found.append(text)
    if not found:
        raise NoReading(word)
    return found[0]


def words_of(form):
    """Yields the letters of all texts, each word once, in the order of words, endlessly."""
    lasting = [BORDER]
    while True:
        # No words come of a length that no text has.
        groups = lasting[:-1] + [BORDER]
        yield from words_along(form.letters, form.arrows, groups)
        lasting.append(group_one_before(form.arrows, lasting[-1]))


def moves_beside(form, ways, node):
    """How two ways, beside each other, can go on behind a node, as (node, letter, kind, other kind).

    A node is (state, other state, whether the ways had unlike answers somewhere).
    """
    state, other_state, unlike = node
    return [((target, other_target, unlike or kind != other_kind), letter, kind, other_kind)
            for letter in form.letters
            for target, kind in ways.get((state, letter), [])
            for other_target, other_kind in ways.get((other_state, letter), [])]


def texts_along(came, node):
    """The two texts on the ways to a node, where came tells how each node was reached."""
    letters, kinds, other_kinds = [], [], []
    while came[node] is not None:
        node, letter, kind, other_kind = came[node]
        letters.append(letter)
        kinds.append(kind)
        other_kinds.append(other_kind)
    word = "".join(letters[::-1])
    return text_with(word, kinds[::-1]), text_with(word, other_kinds[::-1])


def two_readings(form):
    """Two unlike texts with the same letters, as few as possible, the lesser one first; or None."""
    ways = ways_of(form.arrows)
    came = {(0, 0, False): None}
    todo = [(0, 0, False)]
    done = 0
    # The nodes are met in the order of the numbers of letters that lead to them.
    while done < len(todo):
        node = todo[done]
        done += 1
        for beyond, letter, kind, other_kind in moves_beside(form, ways, node):
            if beyond not in came:
                came[beyond] = (node, letter, kind, other_kind)
                todo.append(beyond)
        if (0, 0, True) in came:
            one, other = texts_along(came, (0, 0, True))
            return min(one, other), max(one, other)
    return None
