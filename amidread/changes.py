"""What must be left out of a book, or put in front of its words, so that it can be entered anywhere."""

from amidread.circles import circle_in
from amidread.formats import Format
from amidread.never import never, never_holds
from amidread.words import words_with


def fewest_out(letters, words):
    """A paper for what is to be left out of a book."""
    circles = []
    out = []
    circle = circle_in(words)
    while circle is not None:
        circles.append(circle)
        out = fewest_of_each(circles)
        circle = circle_in(words_without(words, out))
    parts = [(part, never(Format.book(letters, part))) for part in circles]
    return tuple([word for word in words if word in out]), tuple(parts)


def words_without(words, out):
    """The words of a book that are not left out."""
    return tuple([word for word in words if word not in out])


def fewest_of_each(circles):
    """A list of as few words as possible, one of each circle among them."""
    many = 0
    found = words_of_each(circles, many, [], [])
    while found is None:
        many += 1
        found = words_of_each(circles, many, [], [])
    return found


def words_of_each(circles, many, taken, passed):
    """A list of at most so many words, those taken and none of those passed, one of each circle among them; or None."""
    missed = [circle for circle in circles if not any([word in taken for word in circle])]
    if not missed:
        return taken
    if len(taken) == many:
        return None
    free = [word for word in missed[0] if word not in passed]
    for at, word in enumerate(free):
        # With the words ahead of this one all has been tried.
        found = words_of_each(missed, many, taken + [word], passed + free[:at])
        if found is not None:
            return found
    return None


def out_holds(letters, words, thing):
    """Whether any value is a paper for what is to be left out of a book."""
    if not isinstance(thing, tuple) or len(thing) != 2:
        return False
    out, parts = thing
    if not are_in_order(words, out) or circle_in(words_without(words, out)) is not None:
        return False
    if not isinstance(parts, tuple) or not all([is_part(letters, words, part) for part in parts]):
        return False
    return out == () or words_of_each([part[0] for part in parts], len(out) - 1, [], []) is None


def are_in_order(words, thing):
    """Whether any value is a tuple of words of a book, in its order, each at most once."""
    return isinstance(thing, tuple) and list(thing) == [word for word in words if word in thing]


def is_part(letters, words, thing):
    """Whether any value is a pair of words of a book and a never paper of their format."""
    if not isinstance(thing, tuple) or len(thing) != 2 or thing[0] == ():
        return False
    return are_in_order(words, thing[0]) and never_holds(Format.book(letters, thing[0]), thing[1])


def least_marker(letters, words):
    """The first word, in the order of words, with which in front of its words a book can be entered anywhere."""
    length = 0
    while True:
        for marker in words_with(letters, length):
            if circle_in(tuple([marker + word for word in words])) is None:
                return marker
        length += 1
