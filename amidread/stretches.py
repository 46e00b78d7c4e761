"""Stretches of letters around a place, and the answers with which they occur."""

from amidread.groups import every_state, groups_before, is_in, words_along
from amidread.ways import ways_of


def answers(form, ahead, behind):
    """The ascending tuple of the answers with which a stretch occurs."""
    # Where no letter ahead is asked for, some letter stands in front of the place all the same.
    leads = [arrow[2:] for arrow in form.arrows]
    ways = ways_of(form.arrows)
    starts = list(range(form.states))
    for letter in ahead:
        leads = [lead for state in starts for lead in ways.get((state, letter), [])]
        starts = sorted({target for target, _ in leads})
    lasting = groups_before(form.arrows, behind, every_state(form))[0]
    return tuple(sorted({kind for target, kind in leads if is_in(target, lasting)}))


def stretches(form, a, b):
    """Yields the stretches of a and b letters that occur, in the order of their letters."""
    # Texts can begin in front of every state, and end behind it.
    lasting = [every_state(form)] * (a + b + 1)
    for word in words_along(form, lasting):
        yield (word[:a], word[a:])
