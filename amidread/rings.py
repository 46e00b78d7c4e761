"""Rings of letters and of records, and the books whose rings of records are rings of letters, each another one."""

from amidread.errors import NoBook


def rings_in(sums):
    """The tuple (p(1), .., p(N)) for the sums of all d * p(d), d a divisor of n, for n from 1 to N."""
    rings = []
    for length, total in enumerate(sums, start=1):
        repeated = sum([part * rings[part - 1] for part in range(1, length) if length % part == 0])
        rings.append((total - repeated) // length)
    return tuple(rings)


def all_letter_rings(many, length):
    """The tuple (l(1), .., l(N)) for a length N."""
    words = []
    number = 1
    for _ in range(length):
        number = number * many
        words.append(number)
    return rings_in(words)


def letter_rings(many, length):
    """The number of rings of so many letters that do not repeat, over many letters."""
    return all_letter_rings(many, length)[-1]


def record_rings(lengths):
    """The tuple of the numbers of rings of records that do not repeat, for lengths from 1 on."""
    sums = []
    for length, number in enumerate(lengths, start=1):
        shorter = [lengths[part - 1] * sums[length - part - 1] for part in range(1, length)]
        sums.append(length * number + sum(shorter))
    return rings_in(sums)


def barred_at(many, lengths):
    """The least length with more rings of records than rings of letters, or None."""
    possible = all_letter_rings(many, len(lengths))
    for length, number in enumerate(record_rings(lengths), start=1):
        if number > possible[length - 1]:
            return length
    return None


def least_many(lengths):
    """The least number of letters, from 1 on, over which nothing is barred."""
    # Something is barred over low letters, if there are any, and nothing over high ones in the end.
    low, high = 0, 1
    while barred_at(high, lengths) is not None:
        low, high = high, high * 2
    while high - low > 1:
        middle = (low + high) // 2
        if barred_at(middle, lengths) is None:
            high = middle
        else:
            low = middle
    return high


def room(many, lengths, length):
    """How many further words of a length there can be at most, or -1 if something is barred already."""
    if barred_at(many, lengths) is not None:
        return -1
    # One word more than there are rings of its length is too many, whatever else there is.
    low, high = 0, letter_rings(many, length) + 1
    while high - low > 1:
        middle = (low + high) // 2
        if barred_at(many, with_more(lengths, length, middle)) is None:
            low = middle
        else:
            high = middle
    return low


def with_more(lengths, length, number):
    """Lengths with so many further words of one length."""
    return lengths[:length - 1] + (lengths[length - 1] + number,) + lengths[length:]


def book_with(letters, lengths):
    """A book with so many words of each length that can be entered anywhere, in the order of words."""
    barred = barred_at(len(letters), lengths)
    if barred is not None:
        raise NoBook(barred)
    longest = max([length for length, number in enumerate(lengths, start=1) if number > 0], default=0)
    # For each length the words of the set that stands for all texts: at first, the letters.
    shelf = [[] for _ in range(longest + 1)]
    if longest > 0:
        shelf[1] = list(letters)
    book = []
    for length in range(1, longest + 1):
        shelf[length] = sorted(shelf[length])
        while len(shelf[length]) > lengths[length - 1]:
            repeat_in_front(shelf, shelf[length].pop())
        book.extend(shelf[length])
    return tuple(book)


def repeat_in_front(shelf, word):
    """Puts a word that was taken out in front of the other words, once, twice, and so on, as far as lengths go."""
    for length in range(1, len(shelf) - len(word)):
        # Some of these words begin with it already: they were added for a lesser length.
        longer = [word + other for other in shelf[length]]
        shelf[length + len(word)].extend(longer)
