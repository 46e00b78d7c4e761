"""How many letters tell two formats apart, and the words that stand in texts of both."""

import random
import unittest

from amidread.errors import OtherLetters
from amidread.formats import Format
from amidread.stretches import stretches
from amidread.twoformats import common, least_telling
from tests.helpers import (CODE, ITEMS, SWAP, error_of, random_format, random_formats, shape, spelt, texts_up_to,
                           written_otherwise)
from tests.test_pairs import FORMATS, LETTERS, books

ONE = Format.book("ab", ("a",))
OTHER = Format.book("ab", ("b",))
THREE = Format.of("abc", (("abc", "x"), ("c", "y")))
CHANCE = random.Random(141)
POOL = ([form for form in FORMATS if form.letters == "ab"] + books(142, 30)
        + random_formats(143, 15, states=6, arrows=7) + [ONE, OTHER])
PAIRS = [tuple(CHANCE.sample(POOL, 2)) for _ in range(220)] + [(CODE, CODE), (SWAP, SWAP), (ITEMS, CODE)]


def words_inside(form, length):
    """The set of the words of so many letters that stand in letters of texts, by following rows of arrows."""
    rows = {("", state) for state in range(form.states)}
    for _ in range(length):
        rows = {(word + letter, target) for word, state in rows
                for source, letter, target, kind in form.arrows if source == state}
    return {word for word, state in rows}


def words_in_texts(form, length, most):
    """The set of the words of so many letters that stand in texts of at most so many letters."""
    letters = [spelt(text)[0] for text in texts_up_to(form, most)]
    return {word[at:at + length] for word in letters for at in range(len(word) - length + 1)}


class LeastTelling(unittest.TestCase):
    def test_plain_count(self):
        found = {}
        for form, other in PAIRS:
            before = shape(form), shape(other)
            number = least_telling(form, other)
            for length in range(7):
                both = words_inside(form, length) & words_inside(other, length)
                self.assertIs(bool(both), number is None or length < number)
            self.assertEqual((shape(form), shape(other)), before)
            found[number] = found.get(number, 0) + 1
        self.assertTrue({None, 1, 2, 3, 4} <= set(found))

    def test_one_letter(self):
        self.assertEqual(least_telling(ONE, OTHER), 1)
        self.assertEqual(least_telling(Format.book("abc", ("ab", "ba")), Format.book("abc", ("c",))), 1)

    def test_two_letters(self):
        self.assertEqual(least_telling(ONE, Format.book("ab", ("ab",))), 2)
        self.assertEqual(least_telling(ONE, Format.book("ab", ("aab",))), 3)
        self.assertEqual(least_telling(Format.book("ab", ("aab",)), Format.book("ab", ("abb",))), 3)

    def test_never_told_apart(self):
        for form, other in ((CODE, CODE), (LETTERS, CODE), (SWAP, Format.book("ab", ("abab",))), (ITEMS, ONE)):
            self.assertIsNone(least_telling(form, other))
            self.assertIsNone(least_telling(other, form))

    def test_both_ways_round(self):
        for form, other in PAIRS:
            self.assertEqual(least_telling(form, other), least_telling(other, form))

    def test_far(self):
        long, longer = Format.book("ab", ("a" * 7 + "b",)), Format.book("ab", ("a" * 6 + "b",))
        self.assertEqual(least_telling(long, longer), 14)
        self.assertEqual(least_telling(Format.book("ab", ("abbaabab", "abbaabaa")), Format.book("ab", ("abbaabb",))),
                         least_telling(Format.book("ab", ("abbaabb",)), Format.book("ab", ("abbaabab", "abbaabaa"))))
        line = Format("ab", 12, tuple(sorted([(0, "b", 1, ""), (11, "a", 0, "x")]
                                            + [(at, "a", at + 1, "") for at in range(1, 11)])))
        ring = Format("ab", 11, tuple(sorted([(0, "b", 1, ""), (10, "a", 0, "x")]
                                            + [(at, "a", at + 1, "") for at in range(1, 10)])))
        self.assertEqual(least_telling(line, ring), 22)
        self.assertEqual(common(line, ring, 21), "a" * 10 + "b" + "a" * 10)
        self.assertIsNone(common(line, ring, 22))

    def test_kinds_do_not_count(self):
        self.assertIsNone(least_telling(Format.of("ab", (("a", "x"),)), Format.of("ab", (("a", "y"), ("aa", "z")))))

    def test_other_letters(self):
        for form, other in ((CODE, THREE), (THREE, CODE), (ONE, Format.book("ac", ("a",)))):
            self.assertIs(type(error_of(least_telling, form, other)), OtherLetters)

    def test_great_formats(self):
        arrows = [(source, letter, target, kind) for source in range(12) for letter in "abcde"
                  for target in range(12) for kind in (("x", "y", "z") if target == 0 else ("",))]
        every = Format("abcde", 12, tuple(sorted(arrows)))
        self.assertIsNone(least_telling(every, every))
        self.assertEqual(common(every, every, 60), "a" * 60)
        for seed in range(4):
            chance = random.Random(seed)
            one, two = [Format.book("abcde", tuple(sorted({"".join(chance.choice("abcde") for _ in range(8))
                                                           for _ in range(12)}))) for _ in range(2)]
            number = least_telling(one, two)
            self.assertEqual(common(one, two, 60) is None, number is not None and number <= 60)

    def test_only_the_records_count(self):
        for form, other in PAIRS[:20]:
            for again in written_otherwise(form):
                self.assertEqual(least_telling(again, other), least_telling(form, other))
                self.assertEqual(common(other, again, 4), common(other, form, 4))

    def test_by_name(self):
        self.assertEqual(least_telling(form=ONE, other=OTHER), 1)


class Common(unittest.TestCase):
    def test_plain_count(self):
        for form, other in PAIRS:
            before = shape(form), shape(other)
            for length in range(8):
                both = words_inside(form, length) & words_inside(other, length)
                self.assertEqual(common(form, other, length), min(both, default=None))
            self.assertEqual((shape(form), shape(other)), before)

    def test_by_texts(self):
        for form, other in ((CODE, SWAP), (SWAP, ITEMS), (CODE, Format.book("ab", ("aa", "b"))), (ONE, OTHER)):
            for length in range(5):
                both = words_in_texts(form, length, 8) & words_in_texts(other, length, 8)
                self.assertEqual(common(form, other, length), min(both, default=None))
                self.assertEqual(words_in_texts(form, length, 8), words_inside(form, length))

    def test_no_letters(self):
        for form, other in PAIRS + [(ONE, OTHER)]:
            self.assertEqual(common(form, other, 0), "")

    def test_none_exactly_from_least_telling_on(self):
        for form, other in PAIRS:
            number = least_telling(form, other)
            for length in (0, 1, 2, 3, 5, 9, 20, 59, 60):
                word = common(form, other, length)
                self.assertIs(word is None, number is not None and length >= number)
                if word is not None:
                    self.assertEqual(len(word), length)
                    self.assertTrue({word} <= inside(form, word) & inside(other, word))

    def test_both_ways_round(self):
        for form, other in PAIRS:
            for length in (1, 3, 6, 60):
                self.assertEqual(common(form, other, length), common(other, form, length))

    def test_sixty_letters(self):
        self.assertEqual(common(CODE, CODE, 60), "aab" * 20)
        self.assertEqual(common(LETTERS, CODE, 60), "aab" * 20)
        self.assertEqual(common(SWAP, SWAP, 60), "aab" + "ab" * 28 + "a")
        self.assertEqual(common(ITEMS, ITEMS, 60), "a" * 60)
        self.assertIsNone(common(ONE, OTHER, 60))

    def test_the_first_one(self):
        for form in POOL:
            for length in (1, 4):
                self.assertEqual(common(form, form, length), "".join(next(stretches(form, length, 0))))

    def test_other_letters(self):
        for length in (0, 1, 60):
            self.assertIs(type(error_of(common, CODE, THREE, length)), OtherLetters)
            self.assertIs(type(error_of(common, THREE, CODE, length)), OtherLetters)

    def test_three_letters(self):
        chance = random.Random(144)
        for _ in range(40):
            form, other = [random_format(chance, letters="abc", states=5, arrows=8) for _ in range(2)]
            for length in range(5):
                both = words_inside(form, length) & words_inside(other, length)
                self.assertEqual(common(form, other, length), min(both, default=None))

    def test_by_name(self):
        self.assertEqual(common(form=CODE, other=SWAP, n=2), "aa")


def inside(form, word):
    """A set of the word alone if it stands in letters of a text, by following rows of arrows along it."""
    states = set(range(form.states))
    for letter in word:
        states = {target for source, by, target, kind in form.arrows if source in states and by == letter}
    return {word} if states else set()
