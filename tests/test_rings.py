"""Rings of letters and of records, and books that can be entered anywhere."""

import itertools
import random
import unittest

from amidread.errors import NoBook
from amidread.formats import Format
from amidread.pairs import corners
from amidread.rings import barred_at, book_with, least_many, letter_rings, record_rings, room
from tests.helpers import enterable, error_of, words_up_to
from tests.test_pairs import books

MOST = 10 ** 9


def rings_of(sequences):
    """The rings of some sequences that do not repeat, each by its least turn."""
    rings = set()
    for sequence in sequences:
        turned = [sequence[at:] + sequence[:at] for at in range(len(sequence))]
        if turned.count(sequence) == 1:
            rings.add(min(turned))
    return rings


def plain_letter_rings(many, length):
    return len(rings_of(itertools.product(range(many), repeat=length)))


def plain_record_rings(lengths):
    """The numbers of rings of records, for words that are told apart by their numbers alone."""
    sizes = [length for length, number in enumerate(lengths, start=1) for _ in range(number)]
    made = {0: [()]}
    for total in range(1, len(lengths) + 1):
        made[total] = [sequence + (at,) for at, size in enumerate(sizes) if size <= total
                       for sequence in made[total - size]]
    return tuple(len(rings_of(made[total])) for total in range(1, len(lengths) + 1))


def plain_barred_at(many, lengths):
    for length, number in enumerate(plain_record_rings(lengths), start=1):
        if number > plain_letter_rings(many, length):
            return length
    return None


def lengths_of(words, size):
    """The numbers of words of each length from 1 to a size."""
    return tuple(sum(len(word) == length for word in words) for length in range(1, size + 1))


def brim(letters, size, chance):
    """Lengths to which no word can be added, for words of at most so many letters."""
    lengths = (0,) * size
    for length in chance.sample(range(1, size + 1), size):
        free = room(len(letters), lengths, length)
        more = chance.randint(0, min(free, 12))
        lengths = lengths[:length - 1] + (more,) + lengths[length:]
    for length in range(1, size + 1):
        free = room(len(letters), lengths, length)
        lengths = lengths[:length - 1] + (lengths[length - 1] + free,) + lengths[length:]
    return lengths


CHANCE = random.Random(113)
SMALL = sorted({tuple(CHANCE.choice((0, 0, 1, 1, 2, 3)) for _ in range(size % 6)) for size in range(120)})


class LetterRings(unittest.TestCase):
    def test_example(self):
        self.assertEqual(letter_rings(2, 4), 3)

    def test_plain_count(self):
        for many, most in ((1, 7), (2, 10), (3, 7), (4, 5), (5, 5), (7, 3), (100, 2)):
            for length in range(1, most + 1):
                self.assertEqual(letter_rings(many, length), plain_letter_rings(many, length))

    def test_sums(self):
        for many in (1, 2, 3, 10, 99, 100):
            for length in range(1, 17):
                total = sum(part * letter_rings(many, part) for part in range(1, length + 1) if length % part == 0)
                self.assertEqual(total, many ** length)
        self.assertEqual(letter_rings(100, 16), (100 ** 16 - 100 ** 8) // 16)

    def test_one_letter(self):
        self.assertEqual([letter_rings(1, length) for length in range(1, 17)], [1] + [0] * 15)

    def test_by_name(self):
        self.assertEqual(letter_rings(many=2, length=3), 2)


class RecordRings(unittest.TestCase):
    def test_example(self):
        self.assertEqual(record_rings((1, 1)), (1, 1))

    def test_no_lengths(self):
        self.assertEqual(record_rings(()), ())

    def test_zeros(self):
        for size in range(17):
            self.assertEqual(record_rings((0,) * size), (0,) * size)
        self.assertEqual(record_rings((0, 1, 0, 0, 0)), (0, 1, 0, 0, 0))
        self.assertEqual(record_rings((0, 2, 0, 0, 0, 0)), (0, 2, 0, 1, 0, 2))

    def test_plain_count(self):
        for lengths in SMALL:
            self.assertEqual(record_rings(lengths), plain_record_rings(lengths))
            self.assertIs(type(record_rings(lengths)), tuple)

    def test_letters_as_words(self):
        for many in (1, 2, 5):
            lengths = (many,) + (0,) * 15
            self.assertEqual(record_rings(lengths), tuple(letter_rings(many, length) for length in range(1, 17)))

    def test_great_numbers(self):
        for lengths in ((MOST,) * 16, (0,) * 15 + (MOST,), (MOST, 0, 7) * 5):
            found = record_rings(lengths)
            self.assertEqual(found[0], lengths[0])
            sums = []
            for length in range(1, len(lengths) + 1):
                sums.append(length * lengths[length - 1]
                            + sum(lengths[part - 1] * sums[length - part - 1] for part in range(1, length)))
                total = sum(part * found[part - 1] for part in range(1, length + 1) if length % part == 0)
                self.assertEqual(total, sums[-1])
        self.assertEqual(record_rings((MOST, MOST)), (MOST, MOST * (MOST - 1) // 2 + MOST))

    def test_by_name(self):
        self.assertEqual(record_rings(lengths=(1, 1)), (1, 1))


class BarredAt(unittest.TestCase):
    def test_examples(self):
        self.assertEqual([barred_at(2, (0, 2)), barred_at(2, (0, 0, 2))], [2, None])

    def test_plain_count(self):
        found = set()
        for lengths in SMALL:
            for many in (1, 2, 3):
                self.assertEqual(barred_at(many, lengths), plain_barred_at(many, lengths))
                found.add(barred_at(many, lengths))
        self.assertTrue({None, 1, 2, 3, 4} <= found)

    def test_zeros_behind(self):
        # Where nothing is barred so far there is a book, and nothing will be: only further words can bar a length.
        for lengths in SMALL:
            barred = barred_at(2, lengths)
            self.assertEqual(barred_at(2, lengths + (0,) * 4), barred)
            self.assertTrue(barred is None or lengths[barred - 1] > 0)

    def test_nothing(self):
        for many in (2, 100):
            self.assertIsNone(barred_at(many, ()))
            self.assertIsNone(barred_at(many, (0,) * 16))

    def test_great_numbers(self):
        self.assertEqual(barred_at(100, (0,) * 15 + (MOST,)), None)
        self.assertEqual(barred_at(100, (101,)), 1)
        self.assertEqual(barred_at(100, (0, MOST)), 2)
        self.assertEqual(barred_at(100, (0, 0, 0, MOST)), 4)
        self.assertIsNone(barred_at(100, (0, 4950)))
        self.assertEqual(barred_at(100, (0, 4951)), 2)

    def test_by_name(self):
        self.assertEqual(barred_at(many=2, lengths=(3,)), 1)


class LeastMany(unittest.TestCase):
    def test_small(self):
        for lengths in SMALL:
            many = least_many(lengths)
            self.assertIsNone(barred_at(many, lengths))
            for fewer in range(1, many):
                self.assertIsNotNone(barred_at(fewer, lengths))

    def test_one_letter(self):
        for lengths in ((), (0,), (0,) * 16, (1,), (1, 0, 0)):
            self.assertEqual(least_many(lengths), 1)
        self.assertEqual(least_many((0, 1)), 2)
        self.assertEqual(least_many((2,)), 2)
        self.assertEqual(least_many((1, 1)), 2)

    def test_great_numbers(self):
        for lengths in ((1000,) * 16, (1000,), (0,) * 15 + (1000,), (0, 1000), (1000, 999) * 8, (0, 0, 0, 17, 1000)):
            many = least_many(lengths)
            self.assertIsNone(barred_at(many, lengths))
            self.assertTrue(many == 1 or barred_at(many - 1, lengths) is not None)
        self.assertEqual(least_many((1000,)), 1000)
        self.assertEqual(least_many((0, 1000)), 46)
        self.assertEqual(least_many((1000, 0, 0, 0)), 1000)

    def test_by_name(self):
        self.assertEqual(least_many(lengths=(3,)), 3)


class Room(unittest.TestCase):
    def with_more(self, lengths, length, more):
        return lengths[:length - 1] + (lengths[length - 1] + more,) + lengths[length:]

    def test_example(self):
        self.assertEqual(room(2, (0, 0, 1), 3), 1)

    def test_plain_count(self):
        found = set()
        for lengths in SMALL:
            for many in (2, 3):
                for length in range(1, len(lengths) + 1):
                    free = room(many, lengths, length)
                    found.add(free)
                    if free < 0:
                        self.assertEqual(free, -1)
                        self.assertIsNotNone(barred_at(many, lengths))
                    else:
                        self.assertIsNone(barred_at(many, self.with_more(lengths, length, free)))
                        self.assertIsNotNone(barred_at(many, self.with_more(lengths, length, free + 1)))
        self.assertTrue({-1, 0, 1, 2} <= found)

    def test_barred_already(self):
        self.assertEqual(room(2, (0, 2), 1), -1)
        self.assertEqual(room(2, (3, 0, 0), 3), -1)
        self.assertEqual(room(2, (0, 0, 3), 1), -1)

    def test_none_left(self):
        self.assertEqual([room(2, (2, 0, 0), length) for length in (1, 2, 3)], [0, 0, 0])
        self.assertEqual(room(2, (0, 1), 2), 0)

    def test_great(self):
        self.assertEqual(room(100, (0,) * 16, 16), letter_rings(100, 16))
        self.assertEqual(room(100, (0,) * 15 + (MOST,), 16), letter_rings(100, 16) - MOST)
        self.assertEqual(room(100, (0,) * 16, 1), 100)
        free = room(100, (7, 0, 50, 0, 0, 9, 0, 0, 0, MOST, 0, 0, 0, 0, 0, 3), 9)
        lengths = (7, 0, 50, 0, 0, 9, 0, 0, free, MOST, 0, 0, 0, 0, 0, 3)
        self.assertGreater(free, MOST)
        self.assertIsNone(barred_at(100, lengths))
        self.assertIsNotNone(barred_at(100, self.with_more(lengths, 9, 1)))

    def test_by_name(self):
        self.assertEqual(room(many=2, lengths=(0, 0, 1), length=3), 1)


class BookWith(unittest.TestCase):
    def check(self, letters, lengths):
        """Checks the book with some lengths, or that there is none."""
        barred = barred_at(len(letters), lengths)
        if barred is not None:
            error = error_of(book_with, letters, lengths)
            self.assertIs(type(error), NoBook)
            self.assertEqual(error.length, barred)
            return None
        words = book_with(letters, lengths)
        self.assertIs(type(words), tuple)
        self.assertEqual(words, tuple(sorted(set(words), key=lambda word: (len(word), word))))
        self.assertEqual(lengths_of(words, len(lengths)), lengths)
        self.assertEqual(len(words), sum(lengths))
        self.assertTrue(set("".join(words)) <= set(letters))
        self.assertTrue(enterable(words), (letters, lengths))
        return words

    def test_none_or_zeros(self):
        for letters in ("ab", "abcde", "xz"):
            for lengths in ((), (0,), (0, 0, 0), (0,) * 16):
                self.assertEqual(book_with(letters, lengths), ())

    def test_small(self):
        made = barred = 0
        for lengths in SMALL + list(itertools.product(range(3), range(3), range(3), range(3))):
            for letters in ("ab", "acz"):
                words = self.check(letters, lengths)
                if words is None:
                    barred += 1
                elif words != ():
                    self.assertNotEqual(corners(Format.book(letters, words)), ())
                    made += 1
        self.assertGreater(min(made, barred), 40)

    def test_letters_alone(self):
        self.assertEqual(book_with("ab", (2,)), ("a", "b"))
        self.assertEqual(book_with("acz", (3, 0, 0)), ("a", "c", "z"))
        self.assertEqual(error_of(book_with, "ab", (3,)).length, 1)

    def test_no_book(self):
        self.assertEqual(error_of(book_with, "ab", (0, 2)).length, 2)
        self.assertEqual(error_of(book_with, "ab", (2, 1)).length, 2)
        self.assertEqual(error_of(book_with, "ab", (2, 0, 0, 0, 1)).length, 5)

    def test_to_the_brim(self):
        chance = random.Random(111)
        for letters, size in (("ab", 4), ("ab", 6), ("ab", 8), ("abc", 4), ("abc", 5), ("abcd", 3), ("abcde", 3)):
            for _ in range(6):
                lengths = brim(letters, size, chance)
                if sum(lengths) <= 200:
                    self.assertIsNotNone(self.check(letters, lengths))
                    for length in range(1, size + 1):
                        more = lengths[:length - 1] + (lengths[length - 1] + 1,) + lengths[length:]
                        self.assertIsNone(self.check(letters, more))

    def test_one_length_alone(self):
        for letters, length in (("ab", 4), ("ab", 7), ("ab", 9), ("abc", 4), ("abcd", 4), ("abcde", 3)):
            lengths = (0,) * (length - 1) + (letter_rings(len(letters), length),)
            words = self.check(letters, lengths)
            self.assertEqual(len({min(word[at:] + word[:at] for at in range(length)) for word in words}), len(words))

    def test_great(self):
        for letters, lengths in (("ab", (0,) * 13 + (200,)), ("ab", (0, 1, 1, 1, 3, 5, 9, 16, 28, 40, 30, 20, 10, 6)),
                                 ("abc", (0, 1, 4, 10, 30, 50, 60, 20, 25)), ("abcd", (1, 2, 7, 20, 50, 70, 50)),
                                 ("abcde", (2, 3, 15, 60, 70, 50)), ("abcde", (0, 0, 0, 0, 0, 200)),
                                 ("ab", (1, 0, 0, 0, 0, 0, 0, 0, 0, 0, 0, 0, 0, 1, 0, 0)),
                                 ("ab", (1,) * 14 + (0, 0))):
            self.check(letters, lengths)

    def test_every_book(self):
        # All books over two letters with words of at most three: a book that can be entered anywhere stays so
        # without any of its words.
        size = 3
        words = words_up_to("ab", size)[1:]
        found = {(0,) * size}
        open_books = [()]
        for book in open_books:
            for at in range(words.index(book[-1]) + 1 if book else 0, len(words)):
                longer = book + (words[at],)
                if enterable(longer):
                    open_books.append(longer)
                    found.add(lengths_of(longer, size))
        for lengths in itertools.product(range(4), range(6), range(10)):
            self.assertEqual(lengths in found, barred_at(2, lengths) is None)
            self.check("ab", lengths)

    def test_circles_or_pairs(self):
        # The document's two ways to tell whether a book can be entered anywhere.
        told = []
        for form in books(112, 150):
            words = tuple(sorted(word for word in words_up_to("ab", 5) if form.kinds_of(word)))
            told.append(enterable(words))
            self.assertIs(told[-1], corners(form) != ())
        self.assertGreater(min(told.count(True), told.count(False)), 20)

    def test_by_name(self):
        self.assertEqual(book_with(letters="ab", lengths=(2,)), ("a", "b"))
