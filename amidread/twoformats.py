"""How many letters tell two formats apart."""

from amidread.errors import OtherLetters
from amidread.groups import group_one_before, words_along
from amidread.ways import links_of


def arrows_of_both(form, other):
    """The list of arrows that lead in two formats at once, without kinds; their states are pairs, numbered."""
    if form.letters != other.letters:
        raise OtherLetters()
    moves = sorted({arrow[:3] for arrow in form.arrows})
    other_moves = links_of(sorted({(arrow[1], (arrow[0], arrow[2])) for arrow in other.arrows}))
    return [(source * other.states + other_source, letter, target * other.states + other_target, "")
            for source, letter, target in moves for other_source, other_target in other_moves.get(letter, [])]


def lasting_groups(arrows, every, most):
    """The groups from which words of 0 letters lead on, of one letter, and so on to so many, or to the empty group."""
    groups = [every]
    while groups[-1] != 0 and len(groups) <= most:
        before = group_one_before(arrows, groups[-1])
        if before == groups[-1]:
            # So it goes on for ever.
            return groups + [before] * (most + 1 - len(groups))
        groups.append(before)
    return groups


def least_telling(form, other):
    """The least number of letters that tell two formats apart, or None."""
    arrows = arrows_of_both(form, other)
    pairs = form.states * other.states
    # A row of more steps than there are pairs comes back to one of them.
    groups = lasting_groups(arrows, (1 << pairs) - 1, pairs)
    return len(groups) - 1 if groups[-1] == 0 else None


def common(form, other, n):
    """The first word of n letters that stands in letters of texts of both formats, or None."""
    arrows = arrows_of_both(form, other)
    groups = lasting_groups(arrows, (1 << form.states * other.states) - 1, n)
    for word in words_along(form.letters, arrows, groups):
        return word
    return None
