"""Stretches of letters around a place, and the answers with which they occur."""

from amidread.groups import Sight, every_state, words_along


def answers(form, ahead, behind):
    """The ascending tuple of the answers with which a stretch occurs."""
    return Sight(form).answers(ahead, behind)


def stretches(form, a, b):
    """Yields the stretches of a and b letters that occur, in the order of their letters."""
    # Texts can begin in front of every state, and end behind it.
    lasting = [every_state(form)] * (a + b + 1)
    for word in words_along(form.letters, form.arrows, lasting):
        yield (word[:a], word[a:])
