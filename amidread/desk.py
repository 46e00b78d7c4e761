"""A desk at which readers come and go while records are written."""

from amidread.arrows import is_letter
from amidread.errors import BadRecord, BadWord, NameTaken, UnknownName
from amidread.readers import Reader


class Desk:
    """The letters of a text that grows, and who reads them."""

    def __init__(self, form, a, b):
        self.form = form
        self._reader = Reader(form, a, b)
        self._letters = ""
        # The answers that were asked for, place by place, until a letter near them is spoilt.
        self._answers = {}
        # How many letters had been written when somebody came in, by names.
        self._starts = {}
        self._returned = {}

    @property
    def written(self):
        """The letters so far."""
        return self._letters

    def write(self, *records):
        """Writes records behind the others, all or none."""
        for record in records:
            if record not in self.form:
                raise BadRecord(record)
        self._letters = self._letters + "".join([word for word, _ in records])

    def come(self, name):
        """A reader comes in."""
        if name in self._starts:
            raise NameTaken(name)
        self._starts[name] = len(self._letters)
        self._returned[name] = {}

    def go(self, name):
        """A reader leaves."""
        self.check_name(name)
        del self._starts[name]
        del self._returned[name]

    def told(self, name):
        """The ascending tuple of (place, kind) for the borders that a reader can tell."""
        self.check_name(name)
        first = max(1, self._starts[name] + self._reader.ahead)
        last = len(self._letters) - self._reader.behind
        answers = [(place, self.answer_at(place)) for place in range(first, last + 1)]
        return tuple([pair for pair in answers if pair[1] not in (None, "")])

    def news(self, name):
        """What a reader can tell and was not returned to it here before."""
        told = self.told(name)
        returned = self._returned[name]
        fresh = tuple([pair for pair in told if pair not in returned])
        for pair in fresh:
            returned[pair] = True
        return fresh

    def spoil(self, place, letter):
        """Puts a letter in front of a place instead of the one that is there."""
        if not is_letter(self.form.letters, letter):
            raise BadWord(letter)
        self._letters = self._letters[:place - 1] + letter + self._letters[place:]
        for near in range(place - self._reader.behind, place + self._reader.ahead):
            if near in self._answers:
                del self._answers[near]

    def check_name(self, name):
        """Raises UnknownName unless a reader with this name is there."""
        if name not in self._starts:
            raise UnknownName(name)

    def answer_at(self, place):
        """The answer of the stretch at a place, or None if it does not occur."""
        if place not in self._answers:
            reader = self._reader
            ahead = self._letters[place - reader.ahead:place]
            self._answers[place] = reader(ahead, self._letters[place:place + reader.behind])
        return self._answers[place]
