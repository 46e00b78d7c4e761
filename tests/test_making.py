"""Formats of records and of books."""

import random
import unittest

from amidread.errors import BadRecord, BadWord
from amidread.formats import Format
from tests.helpers import CODE, ODD_VALUES, SWAP, error_of, records_by_asking, records_by_ways, same, unchanged_by


class Of(unittest.TestCase):
    def check(self, letters, records):
        form = Format.of(letters, records)
        longest = max(len(word) for word, kind in records)
        self.assertEqual(records_by_ways(form.arrows, longest + 2), set(records))
        self.assertEqual(form.kinds, tuple(sorted({kind for word, kind in records})))
        self.assertEqual(form.letters, letters)
        return form

    def test_records(self):
        self.check("ab", (("a", "x"),))
        self.check("ab", (("aab", "word"), ("abb", "word")))
        self.check("xyz", (("zzz", "k"), ("x", "l"), ("yx", "k")))

    def test_several_times(self):
        self.check("ab", (("ab", "x"), ("ab", "x")))
        self.check("ab", (("b", "x"), ("ab", "y"), ("b", "x"), ("ab", "x"), ("ab", "y")))

    def test_beginnings(self):
        self.check("ab", (("a", "x"), ("aa", "x"), ("aaa", "x"), ("aab", "y")))
        self.check("ab", (("abab", "x"), ("aba", "x"), ("ab", "x"), ("a", "x"), ("b", "x")))

    def test_several_kinds(self):
        form = self.check("ab", (("ab", "x"), ("ab", "y"), ("aba", "z"), ("ab", "abcdefgh")))
        self.assertEqual(form.kinds_of("ab"), ("abcdefgh", "x", "y"))

    def test_random_records(self):
        chance = random.Random(5)
        for _ in range(60):
            records = tuple(("".join(chance.choice("abc") for _ in range(chance.randint(1, 5))), chance.choice("xy"))
                            for _ in range(chance.randint(1, 9)))
            form = self.check("abc", records)
            mixed = list(records)
            chance.shuffle(mixed)
            self.assertEqual(form, Format.of("abc", tuple(mixed)))

    def test_long_words(self):
        one, other = "ab" * 200, "ab" * 199 + "a"
        form = Format.of("ab", ((one, "x"), (other, "y"), ("b" * 400, "x")))
        self.assertEqual([form.kinds_of(word) for word in (one, other, "b" * 400, "b" * 399, one[:-2])],
                         [("x",), ("y",), ("x",), (), ()])

    def test_most_records(self):
        chance = random.Random(6)
        records = tuple(("".join(chance.choice("abcde") for _ in range(400)), "k" * (1 + at % 5))
                        for at in range(200))
        form = Format.of("abcde", records)
        self.assertTrue(all(record in form for record in records))
        self.assertFalse(any((word[:-1], kind) in form for word, kind in records))
        self.assertEqual(form, Format.of("abcde", records[::-1]))

    def test_wrong_records(self):
        good = ("ab", "x")
        for thing in ODD_VALUES:
            if not same(thing, ("a", "x")):
                error = error_of(Format.of, "ab", (good, good, thing, None))
                self.assertIs(type(error), BadRecord)
                self.assertTrue(same(error.record, thing))
        for thing in (("", "x"), ("a", ""), ("c", "x"), ("ac", "x"), ("a", "X"), ("a", "abcdefghi"), ("a", "x1"),
                      ["a", "x"], ("a", "x", "x"), ("a",), ("a", ["x"]), (["a"], "x"), ("a", True), (True, "x")):
            for records in ((thing,), (good, thing), (thing, thing, ("", ""))):
                error = error_of(Format.of, "ab", records)
                self.assertIs(type(error), BadRecord)
                self.assertTrue(same(error.record, thing))

    def test_by_name(self):
        self.assertEqual(Format.of(letters="ab", records=(("aab", "word"), ("abb", "word"))), CODE)

    def test_arguments_stay(self):
        self.assertTrue(unchanged_by(Format.of, "ab", (("b", "x"), ("a", "x"), ("b", "x"))))
        self.assertTrue(unchanged_by(Format.of, "ab", (("b", "x"), ["a", {"x": [1]}])))


class Book(unittest.TestCase):
    def check(self, letters, words):
        form = Format.book(letters, words)
        longest = max(len(word) for word in words)
        self.assertEqual(records_by_ways(form.arrows, longest + 2), {(word, "word") for word in words})
        self.assertEqual(form.kinds, ("word",))

    def test_books(self):
        self.check("ab", ("a",))
        self.check("ab", ("b", "a", "ab"))
        self.check("ab", ("aaa", "aa", "a", "aab", "aabb"))
        self.check("abcde", ("edcba", "abcde", "c"))
        self.assertEqual(records_by_asking(SWAP, 4), {("ab", "word"), ("ba", "word")})

    def test_long_words(self):
        form = Format.book("ab", ("a" * 400, "a" * 399, "b"))
        self.assertEqual([form.kinds_of("a" * size) for size in (398, 399, 400, 401)], [(), ("word",), ("word",), ()])

    def test_wrong_words(self):
        for thing in ODD_VALUES:
            if not isinstance(thing, str) or thing not in ("a", "b", "ab", "a" * 2000):
                error = error_of(Format.book, "ab", ("bb", thing, None))
                self.assertIs(type(error), BadWord)
                self.assertTrue(same(error.word, thing))
        for thing in ("", "c", "abc", "a ", ("a",), ["a"]):
            error = error_of(Format.book, "ab", (thing,))
            self.assertIs(type(error), BadWord)
            self.assertTrue(same(error.word, thing))

    def test_words_that_came_before(self):
        error = error_of(Format.book, "ab", ("a", "ab", "b", "ab", "a", ""))
        self.assertEqual((type(error), error.word), (BadWord, "ab"))
        error = error_of(Format.book, "ab", ("a", "", "a"))
        self.assertEqual((type(error), error.word), (BadWord, ""))

    def test_by_name(self):
        self.assertEqual(Format.book(letters="ab", words=("aab", "abb")), CODE)

    def test_arguments_stay(self):
        self.assertTrue(unchanged_by(Format.book, "ab", ("b", "a")))
        self.assertTrue(unchanged_by(Format.book, "ab", ("b", ["a"], {})))
