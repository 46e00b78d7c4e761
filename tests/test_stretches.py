"""Which stretches occur, and with which answers."""

import random
import unittest

from amidread.formats import Format
from amidread.stretches import answers, stretches
from amidread.texts import words_of
from tests.helpers import (CODE, ITEMS, SWAP, answers_by_rows, first_of, random_formats, shape, spelt, texts_up_to,
                           words_up_to, written_otherwise)
from tests.test_joining import crowd

LETTERS = Format.book("ab", ("a", "b"))
KINDS = Format.of("ab", (("ab", "x"), ("ab", "y"), ("b", "y"), ("aab", "x")))
FORMATS = [CODE, SWAP, ITEMS, LETTERS, KINDS] + random_formats(51, 12, states=3, arrows=6) + random_formats(52, 6)


def answers_by_texts(form, a, b, length):
    """A dict from each stretch of a and b letters in a text of at most so many letters to the set of its answers."""
    found = {}
    for text in texts_up_to(form, length):
        word, told = spelt(text)
        for place in range(max(a, 1), len(word) - b + 1):
            found.setdefault((word[place - a:place], word[place:place + b]), set()).add(told[place - 1])
    return found


class Answers(unittest.TestCase):
    def test_examples(self):
        self.assertEqual([answers(CODE, "ab", ""), answers(CODE, "b", "a")], [("", "word"), ("word",)])

    def test_all_short_stretches(self):
        for form in FORMATS:
            before = shape(form)
            for a in range(4):
                for b in range(4):
                    expected = answers_by_rows(form, a, b)
                    for ahead in words_up_to("ab", a):
                        for behind in words_up_to("ab", b):
                            if len(ahead) == a and len(behind) == b:
                                told = tuple(sorted(expected.get((ahead, behind), ())))
                                self.assertEqual(answers(form, ahead, behind), told)
            self.assertEqual(shape(form), before)

    def test_by_texts(self):
        for form in (CODE, SWAP, ITEMS, LETTERS, KINDS):
            for a, b in ((0, 0), (0, 1), (0, 2), (1, 0), (1, 1), (2, 1)):
                expected = answers_by_texts(form, a, b, 8)
                for (ahead, behind), told in expected.items():
                    self.assertEqual(answers(form, ahead, behind), tuple(sorted(told)))
                self.assertEqual(list(stretches(form, a, b)), sorted(expected))

    def test_no_letters(self):
        self.assertEqual(answers(CODE, "", ""), ("", "word"))
        self.assertEqual(answers(LETTERS, "", ""), ("word",))
        self.assertEqual(answers(ITEMS, "", ""), ("", "item", "stop"))

    def test_no_letters_ahead(self):
        # A letter stands in front of the place: what it can be tells the answer.
        mark = Format.of("abc", (("ab", "x"), ("cb", "y")))
        self.assertEqual(answers(mark, "", "b"), ("",))
        self.assertEqual(answers(mark, "", "bab"), ("",))
        self.assertEqual(answers(mark, "", "a"), ("x", "y"))
        self.assertEqual(answers(CODE, "", "aa"), ("word",))
        self.assertEqual(answers(CODE, "", "bb"), ("",))

    def test_nowhere(self):
        for form, ahead, behind in ((CODE, "bbb", ""), (CODE, "", "bbb"), (CODE, "aa", "aa"), (SWAP, "aa", "a"),
                                    (CODE, "aab" * 20 + "b", "b"), (LETTERS | CODE, "c", ""), (CODE, "", "c")):
            self.assertEqual(answers(form, ahead, behind), ())

    def test_long_stretches(self):
        self.assertEqual(answers(CODE, "aab" * 50, "abb" * 50), ("word",))
        self.assertEqual(answers(SWAP, "ab" * 75, "ab" * 75), ("", "word"))
        self.assertEqual(answers(SWAP, "ab" * 75, "ab" * 75 + "b"), ("word",))
        self.assertEqual(answers(SWAP, "ab" * 75, "ab" * 75 + "bb"), ())
        self.assertEqual(answers(ITEMS, "a" * 400, "a" * 400), ("", "stop"))
        self.assertEqual(answers(ITEMS, "a" * 400, "b"), ("", "item", "stop")[::2])

    def test_great_formats(self):
        for letters in ("ab", "abcde"):
            form = crowd(53, letters, ("v", "w", "x", "y", "z"))
            for word in first_of(words_of(form), 60):
                for place in range(1, len(word)):
                    told = answers(form, word[:place], word[place:])
                    self.assertTrue(told and set(told) <= {"", "v", "w", "x", "y", "z"})

    def test_only_the_records_count(self):
        chance = random.Random(54)
        for form in FORMATS:
            for again in written_otherwise(form):
                for _ in range(10):
                    ahead = "".join(chance.choice("ab") for _ in range(chance.randint(0, 4)))
                    behind = "".join(chance.choice("ab") for _ in range(chance.randint(0, 4)))
                    self.assertEqual(answers(again, ahead, behind), answers(form, ahead, behind))

    def test_by_name(self):
        self.assertEqual(answers(form=CODE, ahead="b", behind="a"), ("word",))


class Stretches(unittest.TestCase):
    def test_all(self):
        for form in FORMATS:
            for a in range(4):
                for b in range(4):
                    expected = sorted(answers_by_rows(form, a, b))
                    self.assertEqual(list(stretches(form, a, b)), expected)
                    self.assertEqual(expected, sorted(expected, key=lambda pair: pair[0] + pair[1]))

    def test_no_letters(self):
        for form in FORMATS:
            self.assertEqual(list(stretches(form, 0, 0)), [("", "")])

    def test_ordinary(self):
        self.assertEqual(list(stretches(CODE, 1, 1)), [("a", "a"), ("a", "b"), ("b", "a"), ("b", "b")])
        self.assertEqual(list(stretches(CODE, 2, 0)), [("aa", ""), ("ab", ""), ("ba", ""), ("bb", "")])
        self.assertEqual(list(stretches(CODE, 0, 3)), [("", word) for word in ("aab", "aba", "abb", "baa", "bab",
                                                                              "bba")])

    def test_many(self):
        for letters, length in (("ab", 12), ("abcde", 5), ("abc", 7)):
            form = Format.book(letters, tuple(letters))
            for a in (0, 2, length):
                self.assertEqual(len(list(stretches(form, a, length - a))), len(letters) ** length)
        self.assertEqual(len(list(stretches(crowd(55, "ab", ("x",)), 6, 6))), 2 ** 12)

    def test_long(self):
        self.assertEqual(list(stretches(Format.book("ab", ("a",)), 150, 150)), [("a" * 150, "a" * 150)])
        alternating = ["".join("ab"[(at + turn) % 2] for at in range(300)) for turn in range(2)]
        self.assertEqual(list(stretches(Format.book("ab", ("ab",)), 140, 160)),
                         [(word[:140], word[140:]) for word in alternating])

    def test_first_ones_soon(self):
        made = stretches(Format.book("abcde", ("a", "b", "c", "d", "e")), 150, 150)
        self.assertIs(iter(made), made)
        self.assertEqual(first_of(made, 3), [("a" * 150, "a" * 149 + end) for end in "abc"])

    def test_side_by_side(self):
        one, other = stretches(CODE, 2, 2), stretches(CODE, 2, 2)
        self.assertEqual([next(one), next(other), next(one), next(other)][::2], first_of(stretches(CODE, 2, 2), 2))

    def test_by_name(self):
        self.assertEqual(list(stretches(form=SWAP, a=1, b=0)), [("a", ""), ("b", "")])
