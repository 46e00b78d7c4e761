"""Which values are texts, and the letters and answers of texts."""

import heapq
import random
import unittest

from amidread.formats import Format
from amidread.texts import answers_of, is_text, letters_of, two_readings
from tests.helpers import (CODE, ITEMS, ODD_VALUES, SWAP, nested, random_formats, records_by_ways, spelt, spoilt,
                           texts_up_to, unchanged_by)

BOTH_KINDS = Format.of("ab", (("ab", "x"), ("ab", "y"), ("b", "y")))


def is_plain_text(form, thing):
    """Whether any value is a text, asked in other words than the program does; words have at most 9 letters."""
    records = records_by_ways(form.arrows, 9)
    if type(thing) is not tuple:
        return False
    for record in thing:
        if type(record) is not tuple or [type(part) for part in record] != [str, str] or record not in records:
            return False
    return True


def two_rings(size, other_size):
    """Two kinds of records: between two letters a stand as many letters b as some size divides, or one more."""
    arrows = [(0, "a", 1, ""), (1, "a", 0, "x"), (0, "a", size + 1, ""), (size + 2, "a", 0, "y")]
    arrows += [(at, "b", at % size + 1, "") for at in range(1, size + 1)]
    arrows += [(size + at, "b", size + at % other_size + 1, "") for at in range(1, other_size + 1)]
    return Format("ab", size + other_size + 1, tuple(sorted(arrows)))


def fitting(size, other_size):
    """The least multiple of one size that is one more than a multiple of the other."""
    return next(number for number in range(1, size * other_size + 1) if number % size == 0 == (number - 1) % other_size)


def fewest_letters_read_twice(words):
    """The fewest letters of two unlike rows of words with the same letters, or None; by what one row is ahead."""
    lengths = {}
    todo = [(len(other), other[len(one):]) for one in words for other in words if one != other and
            other.startswith(one)]
    heapq.heapify(todo)
    while todo:
        length, rest = heapq.heappop(todo)
        if rest == "":
            return length
        if rest not in lengths:
            lengths[rest] = length
            for word in words:
                if rest.startswith(word):
                    heapq.heappush(todo, (length, rest[len(word):]))
                elif word.startswith(rest):
                    heapq.heappush(todo, (length + len(word) - len(rest), word[len(rest):]))
    return None


class IsText(unittest.TestCase):
    def test_texts(self):
        for text in ((), (("a", "stop"),), (("bb", "item"), ("a", "stop"), ("bab", "item")), (("a", "stop"),) * 200):
            self.assertIs(is_text(ITEMS, text), True)
        self.assertIs(is_text(BOTH_KINDS, (("ab", "x"), ("ab", "y"), ("b", "y"))), True)
        for form in (CODE, SWAP, ITEMS, BOTH_KINDS):
            for text in texts_up_to(form, 7):
                self.assertIs(is_text(form, text), True, text)

    def test_no_texts(self):
        for thing in ((("a", "item"),), (("bb", "stop"),), (("b", "item"),), (("ba", "item"),), (("", "stop"),),
                      (("", ""),), (("a", ""),), (("a", "stop"), ("c", "stop")), (("a", "word"),), (("a",),),
                      (("a", "stop", "stop"),), ("a", "stop"), ("as",), (("aa", "stop"),), (("a", "stop"), ())):
            self.assertIs(is_text(ITEMS, thing), False, thing)
        self.assertIs(is_text(BOTH_KINDS, (("b", "x"),)), False)

    def test_texts_of_another_format(self):
        for one in (CODE, SWAP, ITEMS, BOTH_KINDS):
            for other in (CODE, SWAP, ITEMS, BOTH_KINDS):
                records = records_by_ways(one.arrows, 6)
                for text in texts_up_to(other, 6):
                    self.assertIs(is_text(one, text), set(text) <= records, text)

    def test_lists_at_any_depth(self):
        text = (("a", "stop"), ("bab", "item"))
        for thing in (list(text), (list(text[0]), text[1]), (text[0], list(text[1])), ((["a"], "stop"),),
                      (("a", ["stop"]),), [], [()]):
            self.assertIs(is_text(ITEMS, thing), False, thing)

    def test_any_value(self):
        for thing in ODD_VALUES:
            self.assertIs(is_text(CODE, thing), isinstance(thing, tuple) and thing == (), thing)
            self.assertIs(is_text(CODE, (("aab", "word"), thing)), False)
            self.assertIs(is_text(CODE, ((thing, "word"),)), False)
            self.assertIs(is_text(CODE, (("aab", thing),)), isinstance(thing, str) and thing == "word")
            self.assertTrue(unchanged_by(is_text, CODE, (thing,)))
        for thing in (({"aab": "word"},), {("aab", "word"): 1}, {}, (nested(29),), (("aab", "word"),) + (0,) * 4000):
            self.assertIs(is_text(CODE, thing), False)

    def test_spoilt(self):
        for form in [CODE, ITEMS, BOTH_KINDS] + random_formats(31, 6, kinds=("x", "word")):
            for text in texts_up_to(form, 5)[::7]:
                for thing in spoilt(text):
                    self.assertIs(is_text(form, thing), is_plain_text(form, thing), thing)

    def test_long_texts(self):
        text = (("b" + "a" * 398 + "b", "item"), ("a", "stop")) * 100
        self.assertIs(is_text(ITEMS, text), True)
        self.assertIs(is_text(ITEMS, text + (("b" + "a" * 398, "item"),)), False)
        self.assertIs(is_text(ITEMS, text + (("b" + "a" * 398 + "c", "item"),)), False)
        self.assertIs(is_text(ITEMS, (("b" + "a" * 1998 + "b", "item"),) * 1600), True)

    def test_by_name(self):
        self.assertIs(is_text(form=CODE, thing=(("aab", "word"),)), True)


class LettersAndAnswers(unittest.TestCase):
    def test_example(self):
        self.assertEqual(answers_of((("a", "stop"), ("bab", "item"))), ("stop", "", "", "item"))
        self.assertEqual(letters_of((("a", "stop"), ("bab", "item"))), "abab")

    def test_empty_text(self):
        self.assertEqual(letters_of(()), "")
        self.assertEqual(answers_of(()), ())

    def test_all_short_texts(self):
        for form in [CODE, SWAP, ITEMS, BOTH_KINDS] + random_formats(32, 10):
            for text in texts_up_to(form, 6):
                word, told = spelt(text)
                self.assertEqual(letters_of(text), word)
                self.assertEqual(answers_of(text), tuple(told))
                self.assertTrue(unchanged_by(letters_of, text))
                self.assertTrue(unchanged_by(answers_of, text))

    def test_put_together(self):
        chance = random.Random(33)
        texts = texts_up_to(ITEMS, 7)
        for _ in range(200):
            one, other = chance.choice(texts), chance.choice(texts)
            self.assertEqual(letters_of(one + other), letters_of(one) + letters_of(other))
            self.assertEqual(answers_of(one + other), answers_of(one) + answers_of(other))

    def test_long_texts(self):
        text = (("ab" * 200, "x"), ("b", "y")) * 100
        self.assertEqual(letters_of(text), ("ab" * 200 + "b") * 100)
        self.assertEqual(answers_of(text), (("",) * 399 + ("x", "y")) * 100)

    def test_by_name(self):
        self.assertEqual(letters_of(text=(("ab", "x"),)), "ab")
        self.assertEqual(answers_of(text=(("ab", "x"),)), ("", "x"))


class TwoReadingsOfOneWord(unittest.TestCase):
    def check(self, form, length):
        """Compares with all texts of so many letters; whether two of them were found."""
        found = two_readings(form)
        spellings = {}
        for text in texts_up_to(form, length):
            spellings.setdefault(letters_of(text), []).append(text)
        double = [len(word) for word, texts in spellings.items() if len(texts) > 1]
        if found is not None:
            one, other = found
            self.assertTrue(is_text(form, one) and is_text(form, other))
            self.assertLess(one, other)
            self.assertEqual(letters_of(one), letters_of(other))
            if double or len(letters_of(one)) <= length:
                self.assertEqual(len(letters_of(one)), min(double))
        else:
            self.assertEqual(double, [])
        return found

    def test_example(self):
        self.assertIsNone(two_readings(SWAP))

    def test_none(self):
        for form in (CODE, ITEMS, Format.book("ab", ("a", "b")), Format.book("ab", ("a", "ab", "abb"))):
            self.assertIsNone(self.check(form, 7))

    def test_two_kinds(self):
        self.assertEqual(self.check(BOTH_KINDS, 6), ((("ab", "x"),), (("ab", "y"),)))
        single = Format.of("ab", (("b", "x"), ("b", "y")))
        self.assertEqual(self.check(single, 5), ((("b", "x"),), (("b", "y"),)))

    def test_few_letters(self):
        self.assertEqual(self.check(Format.book("ab", ("a", "aa")), 6), ((("a", "word"),) * 2, (("aa", "word"),)))
        form = Format.book("ab", ("ab", "aba", "b", "bab"))
        self.assertEqual(len(letters_of(self.check(form, 8)[0])), 3)

    def test_several_ways_of_one_text(self):
        twice = Format("ab", 3, ((0, "a", 1, ""), (0, "a", 2, ""), (1, "b", 0, "x"), (2, "b", 0, "x")))
        self.assertIsNone(self.check(twice, 8))
        for form in (CODE | CODE, ITEMS | ITEMS, SWAP | SWAP):
            self.assertIsNone(self.check(form, 7))

    def test_random_formats(self):
        results = [self.check(form, 7) is None for form in
                   random_formats(34, 60, states=3, arrows=5) + random_formats(35, 60, states=5, arrows=8)]
        self.assertEqual(set(results), {True, False})

    def test_only_the_records_count(self):
        for form in random_formats(36, 20, states=3, arrows=6):
            again = two_readings(form | form.backward().backward())
            found = two_readings(form)
            self.assertEqual(again is None, found is None)
            if found is not None:
                self.assertEqual(len(letters_of(again[0])), len(letters_of(found[0])))

    def test_long_readings(self):
        # 28 * 28 is the first multiple of 28 that is one more than a multiple of 29.
        for size, other_size in ((2, 3), (3, 5), (28, 29)):
            word = "a" + "b" * fitting(size, other_size) + "a"
            form = two_rings(size, other_size)
            self.assertEqual(two_readings(form), (((word, "x"),), ((word, "y"),)))
            self.assertEqual(two_readings(Format.read(form.text)), (((word, "x"),), ((word, "y"),)))
        self.assertEqual(fitting(28, 29), 784)
        self.assertIsNone(two_readings(two_rings(28, 28)))
        self.assertIsNone(two_readings(two_rings(20, 30)))

    def test_books(self):
        chance = random.Random(37)
        lengths = []
        for _ in range(150):
            sizes = [chance.randint(3, 8) for _ in range(chance.randint(4, 12))]
            words = tuple(sorted({"".join(chance.choice("ab") for _ in range(size)) for size in sizes}))
            found = two_readings(Format.book("ab", words))
            self.assertEqual(found and len(letters_of(found[0])), fewest_letters_read_twice(words), words)
            lengths.append(len(letters_of(found[0])) if found else 0)
        self.assertIn(0, lengths)
        self.assertGreater(max(lengths), 25)

    def test_by_name(self):
        self.assertIsNone(two_readings(form=CODE))
