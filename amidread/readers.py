"""Readers that are right everywhere, and texts at which other functions are wrong."""

from amidread.errors import NotEnough
from amidread.groups import Sight
from amidread.pairs import is_enough
from amidread.rows import line_around, text_along
from amidread.stretches import stretches


class Reader:
    """What the letters ahead of a place and behind it tell, for numbers of them that are enough."""

    def __init__(self, form, a, b):
        if not is_enough(form, a, b):
            raise NotEnough(a, b)
        self.form = form
        self.ahead = a
        self.behind = b
        self._sight = Sight(form)

    def __call__(self, ahead, behind):
        found = self._sight.answers(ahead, behind)
        return found[0] if found else None

    def told(self, word):
        """The tuple of (place, answer) for the places of a word whose stretch is there and occurs."""
        told = []
        # Place 0 has no letter in front of it.
        for place in range(max(1, self.ahead), len(word) - self.behind + 1):
            found = self._sight.answers(word[place - self.ahead:place], word[place:place + self.behind])
            if found:
                told.append((place, found[0]))
        return tuple(told)


def caught(form, a, b, reader):
    """A text and a place of it at which a function of the stretch there is wrong, or None."""
    sight = Sight(form)
    for ahead, behind in stretches(form, a, b):
        told = reader(ahead, behind)
        wrong = [answer for answer in sight.answers(ahead, behind) if told != answer]
        if wrong:
            text, place = text_along(form, list(ahead + behind), line_around(form, ahead, behind, wrong[0]))
            return text, place + a
    return None
