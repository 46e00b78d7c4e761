"""Books of words of one odd length that are not seen at a wrong place."""

from amidread.errors import EvenLength
from amidread.words import is_repeated, least_turn, words_with


def is_comma_free(words):
    """Whether of two words of a tuple, joined, only the two themselves are seen; all have one length."""
    # What is seen between two words is an end of the one and a beginning of the other.
    begins = {word[:at]: True for word in words for at in range(1, len(word))}
    ends = {word[at:]: True for word in words for at in range(1, len(word))}
    return not any([word[:at] in ends and word[at:] in begins for word in words for at in range(1, len(word))])


def comma_free_book(letters, length):
    """A comma-free book with as many words of an odd length as there are rings, in the order of words."""
    if length % 2 == 0:
        raise EvenLength(length)
    book = []
    for word in words_with(letters, length):
        if not is_repeated(word) and word == least_turn(word):
            book.append(marked_turn(letters, word))
    return tuple(sorted(book))


def marked_turn(letters, word):
    """The turn of a word of odd length, that is not repeated, which is in the comma-free book."""
    # Scholtz's way to Eastman's books: the ring of letters is a ring of parts. The first part of
    # odd length is put in front of the parts that it stands ahead of, until one part is left.
    parts = list(word)
    while len(parts) > 1:
        parts = parts_joined(parts, min([(len(part), part) for part in parts if len(part) % 2 == 1])[1])
    return parts[0]


def parts_joined(parts, first):
    """The ring of parts, not all of them alike, where one part is joined to what stands behind it."""
    start = 0
    while parts[start - 1] == first:
        start += 1
    joined = []
    ahead = ""
    for part in parts[start:] + parts[:start]:
        ahead = ahead + part
        if part != first:
            joined.append(ahead)
            ahead = ""
    return joined
