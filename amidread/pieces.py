"""What workers tell that each read a piece of a text, and some letters around it."""

from amidread.errors import NoReading, NotSure
from amidread.groups import BORDER, Sight


def told_by(form, ahead, piece, behind, *, begins=False, ends=False):
    """The tuple of the answers behind the letters of a piece, with None where its worker is not sure."""
    word = ahead + piece + behind
    view = View(Sight(form), word, begins, ends)
    if not view.is_possible():
        raise NoReading(word)
    return tuple(view.told(len(ahead), len(ahead) + len(piece)))


def told_in_pieces(form, a, b, word, cuts):
    """What workers with a letters ahead and b behind tell of a text that is cut behind some places."""
    sight = Sight(form)
    if not View(sight, word, True, True).is_possible():
        raise NoReading(word)
    told = []
    for start, end in zip((0,) + cuts, cuts + (len(word),)):
        first = max(0, start - a)
        last = min(len(word), end + b)
        view = View(sight, word[first:last], first == 0, last == len(word))
        told.extend(view.told(start - first, end - first))
    if None in told:
        raise NotSure(told.index(None) + 1)
    return tuple(told)


class View:
    """A word that stands in texts, perhaps at their beginning or at their end."""

    def __init__(self, sight, word, begins, ends):
        self.sight = sight
        self.word = word
        self.behind_groups = sight.groups_behind(BORDER if begins else sight.every, word)
        self.ahead_groups = sight.groups_ahead(word, BORDER if ends else sight.every)

    def is_possible(self):
        """Whether some text has the letters so."""
        return self.behind_groups[0] & self.ahead_groups[0] != 0

    def told(self, start, end):
        """The list of the answers at the places from behind start to end, with None where several are possible."""
        told = []
        for at in range(start, end):
            kinds = self.sight.kinds_between(self.behind_groups[at], self.word[at], self.ahead_groups[at + 1])
            told.append(kinds[0] if len(kinds) == 1 else None)
        return told
