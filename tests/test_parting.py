import random
import unittest

from amidread.errors import OtherLetters
from amidread.formats import Format, parting
from tests.helpers import CODE, ITEMS, SWAP, random_formats, shape, words_up_to


def ring(size):
    """The only record is a word of so many letters a."""
    arrows = [(at, "a", (at + 1) % size, "x" if at == size - 1 else "") for at in range(size)]
    return Format("ab", size, tuple(arrows))


def runs(size):
    """The records are b behind as many letters a as size divides, at least one."""
    arrows = [(0, "a", 1, ""), (size, "b", 0, "x")] + [(at, "a", at % size + 1, "") for at in range(1, size + 1)]
    return Format("ab", size + 1, tuple(sorted(arrows)))


def behind_the_end(size, kind="x"):
    """The records are the words with an a so many letters ahead of their last one, but not at their beginning."""
    arrows = [(0, "a", 1, ""), (0, "b", 1, ""), (1, "a", 1, ""), (1, "b", 1, ""), (1, "a", 2, "")]
    arrows += [(at, letter, at + 1, "") for at in range(2, size) for letter in "ab"]
    arrows += [(size, letter, 0, kind) for letter in "ab"]
    return Format("ab", size + 1, tuple(sorted(arrows)))


class Parting(unittest.TestCase):
    def check(self, one, other, length):
        before = shape(one), shape(other)
        unlike = [word for word in words_up_to(one.letters, length) if one.kinds_of(word) != other.kinds_of(word)]
        found = parting(one, other)
        if unlike:
            self.assertEqual(found, unlike[0])
        elif found is not None:
            self.assertGreater(len(found), length)
            self.assertNotEqual(one.kinds_of(found), other.kinds_of(found))
        self.assertEqual(parting(other, one), found)
        self.assertEqual(before, (shape(one), shape(other)))
        return found

    def test_first_word(self):
        self.assertEqual(self.check(CODE, SWAP, 4), "ab")
        self.assertEqual(self.check(CODE, ITEMS, 4), "a")
        self.assertEqual(self.check(Format.book("ab", ("bb", "a")), Format.book("ab", ("a", "ab", "bb")), 4), "ab")
        self.assertEqual(self.check(Format.book("ab", ("bbb", "a")), Format.book("ab", ("a", "bb")), 4), "bb")
        self.assertEqual(self.check(Format.of("ab", (("ab", "x"),)), Format.of("ab", (("ab", "y"),)), 4), "ab")
        kinds = Format.of("ab", (("ab", "x"), ("ba", "x"))), Format.of("ab", (("ab", "x"), ("ba", "x"), ("ba", "y")))
        self.assertEqual(self.check(*kinds, 4), "ba")

    def test_none(self):
        self.assertIsNone(parting(ITEMS, ITEMS))
        self.assertIsNone(parting(CODE, Format.book("ab", ("abb", "aab"))))
        self.assertIsNone(parting(CODE, CODE | CODE))
        self.assertIsNone(parting(ITEMS.backward(), ITEMS))
        self.assertIsNone(parting(CODE.backward().backward(), CODE))

    def test_random_formats(self):
        made = random_formats(17, 150, states=3, arrows=6) + random_formats(18, 60, states=5, arrows=14)
        none = 0
        for one, other in zip(made, made[1:]):
            none += self.check(one, other, 7) is None
            self.assertIsNone(parting(one | other, other | one))
        self.assertGreater(none, 0)

    def test_far_words(self):
        self.assertEqual(parting(ring(7), ring(6)), "a" * 6)
        self.assertEqual(parting(runs(7), runs(7) | runs(6)), "a" * 6 + "b")
        self.assertIsNone(parting(runs(2) | runs(4), runs(2)))
        every = Format("ab", 2, ((0, "a", 1, ""), (1, "a", 1, ""), (1, "b", 0, "x")))
        # One, or an even number, or a number that 3 does not divide: all but 3, 9, 15 and so on.
        some = Format("ab", 7, (
            (0, "a", 1, ""), (0, "a", 2, ""), (0, "a", 4, ""), (1, "b", 0, "x"), (2, "a", 3, ""), (3, "a", 2, ""),
            (3, "b", 0, "x"), (4, "a", 5, ""), (4, "b", 0, "x"), (5, "a", 6, ""), (5, "b", 0, "x"), (6, "a", 4, "")))
        self.assertEqual(parting(every, some), "aaab")
        self.assertEqual(parting(every, some | ring(1) | Format.of("ab", (("aaab", "x"),))), "a")
        self.assertEqual(parting(every, some | Format.of("ab", (("aaab", "x"),))), "a" * 9 + "b")

    def test_many_groups(self):
        one = behind_the_end(7)
        self.assertIsNone(parting(one, one.backward().backward()))
        self.assertEqual(parting(one, behind_the_end(7, "y")), "a" * 8)
        self.check(one, behind_the_end(6), 8)

    def test_eight_states(self):
        chance = random.Random(19)
        for seed in range(12):
            one, other = random_formats(seed, 2, letters="abcde", states=8, arrows=chance.choice((20, 60, 140)))
            self.check(one, other, 4)
            self.assertIsNone(parting(one, one.backward().backward()))

    def test_only_the_records_count(self):
        made = random_formats(27, 30, states=5, arrows=12)
        for one, other in zip(made, made[1:]):
            for again in (one | one, one.backward().backward(), Format.read(one.text)):
                self.assertIsNone(parting(one, again))
                self.assertEqual(again.kinds, one.kinds)
                self.assertEqual(parting(again, other), parting(one, other))
                for word in words_up_to("ab", 4):
                    self.assertEqual(again.kinds_of(word), one.kinds_of(word))
                    self.assertIs((word, "x") in again, (word, "x") in one)

    def test_books(self):
        chance = random.Random(20)
        for _ in range(20):
            words = list({"".join(chance.choice("ab") for _ in range(8)) for _ in range(12)})
            words.sort()
            self.assertIsNone(parting(Format.book("ab", tuple(words)), Format.book("ab", tuple(words[::-1]))))
            gone = chance.choice(words)
            rest = tuple(word for word in words if word != gone)
            self.assertEqual(parting(Format.book("ab", tuple(words)), Format.book("ab", rest)), gone)
            self.assertEqual(parting(Format.book("ab", rest), Format.book("ab", tuple(words))), gone)

    def test_other_letters(self):
        with self.assertRaises(OtherLetters):
            parting(CODE, Format.book("abc", ("aab", "abb")))
        with self.assertRaises(OtherLetters):
            parting(Format.book("bc", ("b",)), CODE)

    def test_by_name(self):
        self.assertEqual(parting(form=CODE, other=SWAP), "ab")
