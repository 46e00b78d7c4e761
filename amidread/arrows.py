"""Which values are kinds, records and arrows, and which make a format."""

from amidread.errors import BadFormat
from amidread.ways import least_idle_state
from amidread.words import ALPHABET, is_letters, is_word

LONGEST_KIND = 8


def is_integer(thing):
    """Whether any value is an integer; True and False are none."""
    return isinstance(thing, int) and not isinstance(thing, bool)


def is_kind(thing):
    """Whether any value is a kind that a record can have."""
    return is_word(ALPHABET, thing) and 1 <= len(thing) <= LONGEST_KIND


def is_letter(letters, thing):
    """Whether any value is one of some letters."""
    return is_word(letters, thing) and len(thing) == 1


def is_record(letters, thing):
    """Whether any value is a pair of a word that is not empty and a kind."""
    if not isinstance(thing, tuple) or len(thing) != 2:
        return False
    return is_word(letters, thing[0]) and thing[0] != "" and is_kind(thing[1])


def is_state(states, thing):
    """Whether any value is one of so many states."""
    return is_integer(thing) and 0 <= thing < states


def is_arrow(letters, states, thing):
    """Whether any value is an arrow of a format with these letters and so many states."""
    if not isinstance(thing, tuple) or len(thing) != 4:
        return False
    source, letter, target, kind = thing
    if not is_state(states, source) or not is_state(states, target):
        return False
    if not is_letter(letters, letter):
        return False
    return is_kind(kind) if target == 0 else kind == ""


def is_ascending(arrows):
    """Whether arrows are sorted, each of them once."""
    return all([one < other for one, other in zip(arrows, arrows[1:])])


def check_parts(letters, states, arrows):
    """Raises BadFormat unless three values, of any kind, make a format."""
    if not is_letters(letters):
        raise BadFormat("letters")
    if not is_integer(states) or states < 1:
        raise BadFormat("states")
    if not isinstance(arrows, tuple):
        raise BadFormat("arrows")
    for arrow in arrows:
        if not is_arrow(letters, states, arrow):
            raise BadFormat(arrow)
    if not is_ascending(arrows):
        raise BadFormat("order")
    idle = least_idle_state(arrows)
    if idle < states:
        raise BadFormat(idle)
