"""A desk at which readers come and go while records are written."""

from amidread.arrows import is_letter
from amidread.errors import BadRecord, BadWord, NameTaken, UnknownName
from amidread.readers import Reader


class Desk:
    """The letters of a text that grows, and who reads them."""

    def __init__(self, form, a, b):
        self._reader = Reader(form, a, b)
        self._letters = ""
        # For each place, from 0 on, its answer, or None; and the places that are not worked out yet.
        self._answers = [None]
        self._stale = {}
        # By names: how many letters had been written when a reader came in, and what was returned as news.
        self._starts = {}
        self._returned = {}

    @property
    def written(self):
        """The letters so far."""
        return self._letters

    def write(self, *records):
        """Writes records behind the others, all or none."""
        for record in records:
            if record not in self._reader.form:
                raise BadRecord(record)
        word = "".join([letters for letters, _ in records])
        self._letters = self._letters + word
        self._answers.extend([None] * len(word))
        last = len(self._letters) - self._reader.behind
        self.mark(last - len(word) + 1, last)

    def come(self, name):
        """A reader comes in."""
        if name in self._starts:
            raise NameTaken(name)
        self._starts[name] = len(self._letters)
        self._returned[name] = {}

    def go(self, name):
        """A reader leaves."""
        self.check_name(name)
        del self._starts[name]
        del self._returned[name]

    def told(self, name):
        """The ascending tuple of (place, kind) for the borders that a reader can tell."""
        self.check_name(name)
        self.work_out()
        first = max(1, self._starts[name] + self._reader.ahead)
        return tuple([(place, kind) for place, kind in enumerate(self._answers[first:], start=first) if kind])

    def news(self, name):
        """What a reader can tell and was not returned to it here before."""
        told = self.told(name)
        returned = self._returned[name]
        fresh = tuple([pair for pair in told if pair not in returned])
        for pair in fresh:
            returned[pair] = True
        return fresh

    def spoil(self, place, letter):
        """Puts a letter in front of a place instead of the one that is there."""
        if not is_letter(self._reader.form.letters, letter):
            raise BadWord(letter)
        self._letters = self._letters[:place - 1] + letter + self._letters[place:]
        self.mark(place - self._reader.behind, place + self._reader.ahead - 1)

    def check_name(self, name):
        """Raises UnknownName unless a reader with this name is there."""
        if name not in self._starts:
            raise UnknownName(name)

    def mark(self, first, last):
        """Marks the places from first to last, as far as they have enough letters ahead and behind."""
        start = max(1, self._reader.ahead, first)
        end = min(len(self._letters) - self._reader.behind, last)
        for place in range(start, end + 1):
            self._stale[place] = True

    def work_out(self):
        """Works out the answers at the places that are marked."""
        reader = self._reader
        for place in self._stale:
            ahead = self._letters[place - reader.ahead:place]
            self._answers[place] = reader(ahead, self._letters[place:place + reader.behind])
        self._stale = {}
