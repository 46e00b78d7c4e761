"""The two ways to make formats of formats: | and backward."""

import random
import unittest

from amidread.errors import OtherLetters
from amidread.formats import Format
from tests.helpers import CODE, ITEMS, SWAP, error_of, random_formats, records_by_ways, shape

LENGTH = 7


def turned(records):
    return {(word[::-1], kind) for word, kind in records}


def crowd(seed, letters, kinds):
    """A format of 60 states and 300 arrows, each state on the ring 0, 1, .., 59."""
    chance = random.Random(seed)
    made = {(state, letters[0], (state + 1) % 60, kinds[0] if state == 59 else "") for state in range(60)}
    made |= {(3, letters[1], 0, kind) for kind in kinds}
    while len(made) < 300:
        target = chance.randrange(60)
        kind = chance.choice(kinds) if target == 0 else ""
        made.add((chance.randrange(60), chance.choice(letters), target, kind))
    return Format(letters, 60, tuple(sorted(made)))


def book_of(seed, many, length, kinds):
    chance = random.Random(seed)
    return tuple(("".join(chance.choice("abcde") for _ in range(length)), chance.choice(kinds)) for _ in range(many))


class Joined(unittest.TestCase):
    def check(self, one, other):
        shapes = shape(one), shape(other)
        both = one | other
        expected = records_by_ways(one.arrows, LENGTH) | records_by_ways(other.arrows, LENGTH)
        self.assertEqual(records_by_ways(both.arrows, LENGTH), expected)
        self.assertLessEqual(both.states - 1, one.states - 1 + other.states - 1)
        self.assertEqual(both, Format(both.letters, both.states, both.arrows))
        self.assertEqual(shapes, (shape(one), shape(other)))

    def test_records(self):
        for one in (CODE, SWAP, ITEMS):
            for other in (CODE, SWAP, ITEMS):
                self.check(one, other)

    def test_arrows_in_common(self):
        single = Format("ab", 1, ((0, "a", 0, "stop"), (0, "a", 0, "x")))
        self.check(single, ITEMS)
        self.check(ITEMS, single)
        self.check(single, single)
        self.assertEqual((single | single).states, 1)

    def test_random_formats(self):
        made = random_formats(7, 30) + random_formats(8, 10, states=6, arrows=14)
        for one, other in zip(made, made[1:]):
            self.check(one, other)

    def test_no_way_from_one_to_the_other(self):
        both = Format.book("ab", ("aab",)) | Format.book("ab", ("aaa", "abb"))
        self.assertEqual(records_by_ways(both.arrows, 6), {("aab", "word"), ("aaa", "word"), ("abb", "word")})

    def test_other_letters(self):
        for other in (Format.book("abc", ("aab",)), Format.book("ac", ("a",))):
            before = shape(CODE), shape(other)
            self.assertIs(type(error_of(CODE.__or__, other)), OtherLetters)
            with self.assertRaises(OtherLetters):
                other | CODE
            self.assertEqual(before, (shape(CODE), shape(other)))

    def test_great_formats(self):
        one, other = crowd(9, "abcde", ("k", "l", "m", "n", "o")), crowd(10, "abcde", ("m", "p", "q", "r", "s"))
        both = one | other
        self.assertLessEqual(both.states, 119)
        self.assertEqual(len(both.kinds), 9)
        found = records_by_ways(both.arrows, 3)
        self.assertEqual(found, records_by_ways(one.arrows, 3) | records_by_ways(other.arrows, 3))

    def test_long_books(self):
        records, others = book_of(11, 200, 400, ("x", "y")), book_of(12, 200, 400, ("y", "z"))
        both = Format.of("abcde", records) | Format.of("abcde", others)
        self.assertTrue(all(record in both for record in records + others))
        self.assertEqual(both.kinds, ("x", "y", "z"))


class Backward(unittest.TestCase):
    def check(self, form):
        before = shape(form)
        back = form.backward()
        self.assertEqual(records_by_ways(back.arrows, LENGTH), turned(records_by_ways(form.arrows, LENGTH)))
        self.assertLessEqual(back.states - 1, (form.states - 1) * len(form.kinds))
        self.assertEqual(back.kinds, form.kinds)
        self.assertEqual(back.letters, form.letters)
        self.assertEqual(back, Format(back.letters, back.states, back.arrows))
        self.assertEqual(shape(form), before)
        return back

    def test_records(self):
        self.assertEqual(records_by_ways(self.check(CODE).arrows, 5), {("baa", "word"), ("bba", "word")})
        self.check(SWAP)
        self.check(ITEMS)

    def test_kinds_are_kept_apart(self):
        form = Format.of("ab", (("aba", "x"), ("abb", "y"), ("abb", "z"), ("b", "x"), ("bba", "y")))
        expected = {("aba", "x"), ("bba", "y"), ("bba", "z"), ("b", "x"), ("abb", "y")}
        self.assertEqual(records_by_ways(self.check(form).arrows, 5), expected)

    def test_random_formats(self):
        for form in random_formats(13, 40) + random_formats(14, 15, states=6, arrows=16, kinds=("x", "y", "z")):
            again = self.check(self.check(form))
            self.assertEqual(records_by_ways(again.arrows, LENGTH), records_by_ways(form.arrows, LENGTH))

    def test_great_formats(self):
        form = crowd(15, "abcde", ("k", "l", "m", "n", "o"))
        back = form.backward()
        self.assertEqual(records_by_ways(back.arrows, 3), turned(records_by_ways(form.arrows, 3)))
        self.assertLessEqual(back.states, 59 * 5 + 1)
        word = "a" * 60
        self.assertEqual(back.kinds_of(word), form.kinds_of(word))

    def test_long_books(self):
        records = book_of(16, 200, 400, ("k", "l", "m", "n", "o"))
        form = Format.of("abcde", records)
        back = form.backward()
        self.assertTrue(all((word[::-1], kind) in back for word, kind in records))
        self.assertFalse(any((word[::-1][:-1], kind) in back for word, kind in records))
        self.assertEqual(back, Format(back.letters, back.states, back.arrows))

    def test_many_kinds_behind_one_beginning(self):
        kinds = tuple(one + other for one in "abcdefghijklmn" for other in "abcdefghijklmn")
        records = tuple(("a" * 399 + "ab"[at % 2], kind) for at, kind in enumerate(kinds))
        back = Format.of("ab", records).backward()
        self.assertEqual(back.kinds_of("a" * 400), kinds[0::2])
        self.assertEqual(back.kinds_of("b" + "a" * 399), kinds[1::2])

    def test_of_joined(self):
        both = CODE | ITEMS | SWAP
        back = both.backward() | ITEMS.backward().backward()
        expected = turned(records_by_ways(both.arrows, LENGTH)) | records_by_ways(ITEMS.arrows, LENGTH)
        self.assertEqual(records_by_ways(back.arrows, LENGTH), expected)
