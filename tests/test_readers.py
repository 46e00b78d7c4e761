"""Readers, and texts at which functions are caught."""

import random
import unittest

from amidread.errors import NotEnough
from amidread.formats import Format
from amidread.pairs import corners, is_enough
from amidread.readers import Reader, caught
from amidread.texts import is_text
from tests.helpers import (CODE, ITEMS, SWAP, answers_by_rows, error_of, random_format, shape, spelt, texts_up_to,
                           words_up_to, written_otherwise)
from tests.test_pairs import FORMATS, LETTERS, books
from tests.test_papers import FAR

KINDS = Format.of("ab", (("a", "x"), ("b", "y")))
MARKED = Format.of("abc", (("abc", "x"), ("bbc", "y"), ("c", "z")))
ENTERED = [form for form in FORMATS + books(81, 12) + [KINDS, MARKED] if corners(form)]


def told_by_rows(form, a, b, word):
    """What a reader tells of a word, by following rows of arrows; none of the stretches has two answers."""
    table = {stretch: min(told) for stretch, told in answers_by_rows(form, a, b).items()}
    return tuple((place, table[word[place - a:place], word[place:place + b]]) for place in range(1, len(word) + 1)
                 if place >= a and place + b <= len(word) and (word[place - a:place], word[place:place + b]) in table)


def small_numbers(form, most=4):
    """The numbers up to so many that are enough."""
    return [(a, b) for a in range(most + 1) for b in range(most + 1) if is_enough(form, a, b)]


def words_near(word, letters, chance):
    """Words like a word: a letter put otherwise, left out, or twice."""
    at = chance.randrange(max(1, len(word)))
    return [word[:at] + chance.choice(letters) + word[at + 1:], word[:at] + word[at + 1:], word[:at] + word[at:at + 1] * 2
            + word[at + 1:], word[at:], word[:at], word[::-1]]


def long_text(chance, words, size):
    """A text of words in any order, of at least so many letters: its letters, and the answers at its places."""
    text = []
    while sum(map(len, text)) < size:
        text.append(chance.choice(words))
    return spelt([(word, "word") for word in text])


class Made(unittest.TestCase):
    def test_not_enough(self):
        count = 0
        for form in FORMATS:
            numbers = {(a, b) for a in range(4) for b in range(4)} | {(150, 0), (0, 150), (150, 150)}
            for a, b in sorted(numbers | set(corners(form))):
                error = error_of(Reader, form, a, b)
                if is_enough(form, a, b):
                    self.assertIsNone(error)
                else:
                    self.assertIs(type(error), NotEnough)
                    self.assertEqual((error.ahead, error.behind), (a, b))
                    count += 1
        self.assertGreater(count, 300)

    def test_attributes(self):
        reader = Reader(CODE, 1, 4)
        self.assertIs(reader.form, CODE)
        self.assertEqual((reader.ahead, reader.behind), (1, 4))
        self.assertEqual((Reader(LETTERS, 0, 0).ahead, Reader(LETTERS, 0, 0).behind), (0, 0))

    def test_is_equal_to_no_other_value(self):
        for thing in (None, 0, "", (), CODE, "word"):
            self.assertFalse(Reader(CODE, 1, 1) == thing)

    def test_by_name(self):
        reader = Reader(form=CODE, a=0, b=3)
        self.assertEqual((reader.ahead, reader.behind), (0, 3))
        self.assertEqual(reader(ahead="", behind="aab"), "word")
        self.assertEqual(reader.told(word="aabaab"), ((1, ""), (2, ""), (3, "word")))
        error = error_of(Reader, form=CODE, a=0, b=2)
        self.assertEqual((error.ahead, error.behind), (0, 2))


class Called(unittest.TestCase):
    def test_all_short_stretches(self):
        unknown = 0
        for form in ENTERED:
            before = shape(form)
            for a, b in small_numbers(form, 3):
                reader = Reader(form, a, b)
                expected = answers_by_rows(form, a, b)
                words = words_up_to(form.letters, max(a, b))
                for ahead in words:
                    for behind in words:
                        if (len(ahead), len(behind)) == (a, b):
                            told = expected.get((ahead, behind), [None])
                            self.assertEqual([reader(ahead, behind)], list(told))
                            unknown += told == [None]
            self.assertEqual(shape(form), before)
        self.assertGreater(unknown, 100)

    def test_no_letters(self):
        self.assertEqual(Reader(LETTERS, 0, 0)("", ""), "word")
        one = Format.of("ab", (("a", "x"), ("b", "x"), ("ab", "x")))
        self.assertEqual(corners(one), ())
        self.assertEqual(Reader(Format.of("abc", (("a", "x"), ("c", "x"))), 0, 0)("", ""), "x")

    def test_kind(self):
        reader = Reader(KINDS, 1, 0)
        self.assertEqual([reader("a", ""), reader("b", "")], ["x", "y"])

    def test_the_same_again(self):
        reader = Reader(CODE, 1, 1)
        for _ in range(3):
            self.assertEqual([reader("b", "a"), reader("a", "b"), reader("b", "b"), reader("a", "a")],
                             ["word", "", "", ""])

    def test_long(self):
        reader = Reader(CODE, 150, 150)
        self.assertEqual(reader("aab" * 50, "abb" * 50), "word")
        self.assertEqual(reader("aab" * 50, "bab" * 50), None)
        self.assertEqual(reader("baa" * 50, "b" + "aab" * 49 + "aa"), "")


class Told(unittest.TestCase):
    def test_texts(self):
        for form in ENTERED:
            numbers = small_numbers(form) + [corner for corner in corners(form) if max(corner) > 4]
            for a, b in numbers:
                reader = Reader(form, a, b)
                for text in texts_up_to(form, 6)[:150]:
                    word, answers = spelt(text)
                    told = [(place, answers[place - 1]) for place in range(max(1, a), len(word) - b + 1)]
                    self.assertEqual(reader.told(word), tuple(told))

    def test_all_short_words(self):
        for form in ENTERED[:14]:
            for a, b in small_numbers(form, 3):
                reader = Reader(form, a, b)
                table = answers_by_rows(form, a, b)
                for word in words_up_to(form.letters, 6):
                    places = [place for place in range(1, len(word) + 1) if place >= a and place + b <= len(word)]
                    cut = [(place, (word[place - a:place], word[place:place + b])) for place in places]
                    expected = [(place, min(table[stretch])) for place, stretch in cut if stretch in table]
                    self.assertEqual(reader.told(word), tuple(expected))

    def test_words_of_no_text(self):
        chance = random.Random(82)
        gaps = 0
        for form in ENTERED:
            for a, b in small_numbers(form, 3):
                reader = Reader(form, a, b)
                for text in texts_up_to(form, 8)[-4:]:
                    for word in words_near(spelt(text)[0], form.letters, chance):
                        told = reader.told(word)
                        self.assertIs(type(told), tuple)
                        self.assertEqual(told, told_by_rows(form, a, b, word))
                        gaps += len(told) < len(word) - a - b
        self.assertGreater(gaps, 50)

    def test_edges(self):
        self.assertEqual(Reader(CODE, 1, 1).told("aababb"), ((1, ""), (2, ""), (3, "word"), (4, ""), (5, "")))
        self.assertEqual(Reader(CODE, 3, 0).told("aababb"), ((3, "word"), (4, ""), (5, ""), (6, "word")))
        self.assertEqual(Reader(CODE, 0, 3).told("aababb"), ((1, ""), (2, ""), (3, "word")))
        # Place 0 is none, also where no letters ahead count.
        self.assertEqual(Reader(LETTERS, 0, 0).told("ab"), ((1, "word"), (2, "word")))
        self.assertEqual(Reader(CODE, 1, 1).told("bbbb"), ((1, ""), (2, ""), (3, "")))
        self.assertEqual(Reader(CODE, 2, 2).told("bbbbb"), ())
        self.assertEqual(Reader(CODE, 3, 0).told("aabbbbaab"), ((3, "word"), (4, "word"), (7, ""), (8, ""), (9, "word")))

    def test_words_that_are_too_short(self):
        for a, b in ((1, 1), (3, 0), (0, 3), (2, 2), (150, 150)):
            reader = Reader(CODE, a, b)
            for word in ("", "a", "aab", "aababb"):
                self.assertEqual(len(reader.told(word)), max(0, len(word) - b - max(a, 1) + 1))
        self.assertEqual(Reader(LETTERS, 0, 0).told(""), ())

    def test_long(self):
        chance = random.Random(83)
        for form, words in ((CODE, ("aab", "abb")), (FAR, ("aaaabaa", "aabaaaaa", "aba", "baabb", "bbbab"))):
            word, answers = long_text(chance, words, 400)
            reader = Reader(form, 150, 150)
            expected = tuple((place, answers[place - 1]) for place in range(150, len(word) - 149))
            self.assertEqual(reader.told(word), expected)
            other = "b" if word[200] == "a" else "a"
            spoilt = reader.told(word[:200] + other + word[201:])
            # Whatever is told where the letter is not in the stretch is as it was.
            self.assertEqual([pair for pair in spoilt if not 50 < pair[0] < 351],
                             [pair for pair in expected if not 50 < pair[0] < 351])
        word, answers = long_text(chance, ("aab", "abb"), 2000)
        self.assertEqual(Reader(CODE, 150, 150).told(word),
                         tuple((place, answers[place - 1]) for place in range(150, len(word) - 149)))

    def test_great_formats(self):
        chance = random.Random(84)
        sure = 0
        while sure < 3:
            form = random_format(chance, letters="abcde", states=12, arrows=16)
            for a, b in corners(form)[:1]:
                reader = Reader(form, max(a, 150), max(b, 150))
                word = "".join(chance.choice("abcde") for _ in range(400))
                self.assertLessEqual(len(reader.told(word)), 101)
                sure += 1

    def test_only_the_records_count(self):
        for form in ENTERED[:10]:
            a, b = corners(form)[0]
            words = [spelt(text)[0] for text in texts_up_to(form, 7)[-10:]]
            for again in written_otherwise(form):
                for word in words + ["a" * 9, "ab" * 4]:
                    self.assertEqual(Reader(again, a, b).told(word), Reader(form, a, b).told(word))


def is_wrong_there(form, a, b, reader, thing):
    """Whether a value is a text and a place at which a function is wrong."""
    if type(thing) is not tuple or len(thing) != 2 or type(thing[1]) is not int or not is_text(form, thing[0]):
        return False
    word, answers = spelt(thing[0])
    place = thing[1]
    if not 1 <= place <= len(word) or place < a or place + b > len(word):
        return False
    return reader(word[place - a:place], word[place:place + b]) != answers[place - 1]


class Caught(unittest.TestCase):
    def check(self, form, a, b, reader):
        """Checks what catches a function that is wrong somewhere."""
        found = caught(form, a, b, reader)
        self.assertTrue(is_wrong_there(form, a, b, reader, found), (form.text, a, b, found))

    def test_right_ones(self):
        for form in ENTERED:
            before = shape(form)
            for a, b in small_numbers(form, 3):
                self.assertIsNone(caught(form, a, b, Reader(form, a, b)))
                table = answers_by_rows(form, a, b)

                def reader(ahead, behind):
                    # What is told of stretches that do not occur does not matter.
                    return min(table.get((ahead, behind), [7]))
                self.assertIsNone(caught(form, a, b, reader))
            self.assertEqual(shape(form), before)

    def test_wrong_at_one_stretch(self):
        chance = random.Random(85)
        for form in ENTERED:
            for a, b in small_numbers(form, 2):
                table = {stretch: min(told) for stretch, told in answers_by_rows(form, a, b).items()}
                for stretch in chance.sample(sorted(table), min(3, len(table))):
                    for told in (None, False, True, 0, 1, [], ["word"], ("word",), {}, "other", "" if table[stretch]
                                 else "word", table[stretch] + "s", [table[stretch]], CODE):
                        def reader(ahead, behind):
                            return told if (ahead, behind) == stretch else table[ahead, behind]
                        self.check(form, a, b, reader)

    def test_not_enough(self):
        for form in FORMATS + [SWAP, ITEMS, Format.of("ab", (("ab", "x"), ("ab", "y")))]:
            for a in range(4):
                for b in range(4):
                    if not is_enough(form, a, b):
                        for told in (min, max, lambda answers: "", lambda answers: None):
                            table = answers_by_rows(form, a, b)

                            def reader(ahead, behind):
                                return told(table[ahead, behind])
                            self.check(form, a, b, reader)

    def test_right_but_for_one_text(self):
        # Both answers of the stretch are right somewhere: each function is wrong at the other one.
        for told in ("", "word"):
            self.check(CODE, 2, 0, lambda ahead, behind: told if ahead == "ab" else Reader(CODE, 3, 0)("a" + ahead, ""))

    def test_no_letters(self):
        self.assertIsNone(caught(LETTERS, 0, 0, lambda ahead, behind: "word"))
        for told in ("", None, "x", 0):
            self.check(LETTERS, 0, 0, lambda ahead, behind: told)
            self.check(CODE, 0, 0, lambda ahead, behind: told)
        self.check(CODE, 0, 1, lambda ahead, behind: "")
        self.check(CODE, 1, 0, lambda ahead, behind: "")

    def test_words_alone_are_asked(self):
        asked = []

        def reader(ahead, behind):
            asked.append((ahead, behind))
            return Reader(CODE, 1, 1)(ahead, behind)
        self.assertIsNone(caught(CODE, 1, 1, reader))
        self.assertEqual(sorted(set(asked)), [("a", "a"), ("a", "b"), ("b", "a"), ("b", "b")])

    def test_many_stretches(self):
        for letters, a, b in (("ab", 6, 6), ("ab", 12, 0), ("ab", 0, 12), ("abcde", 3, 2), ("abc", 4, 3)):
            form = Format.book(letters, tuple(letters))
            last = letters[-1]
            self.assertIsNone(caught(form, a, b, Reader(form, a, b)))
            self.check(form, a, b, lambda ahead, behind: "" if ahead + behind == last * (a + b) else "word")
        self.assertIsNone(caught(CODE, 6, 6, Reader(CODE, 6, 6)))

    def test_great_formats(self):
        chance = random.Random(86)
        for letters in ("ab", "abcde"):
            words = {"".join(chance.choice(letters) for _ in range(8)) for _ in range(12)}
            form = Format.of(letters, tuple((word, "vwxyz"[at % 5]) for at, word in enumerate(sorted(words))))
            self.check(form, 3, 2, lambda ahead, behind: "")
            self.check(form, 0, 5, lambda ahead, behind: "")

    def test_only_the_records_count(self):
        for form in ENTERED[:10]:
            a, b = corners(form)[-1]
            if max(a, b) < 5:
                for again in written_otherwise(form):
                    self.assertIsNone(caught(form, a, b, Reader(again, a, b)))

    def test_by_name(self):
        self.assertIsNone(caught(form=CODE, a=1, b=1, reader=Reader(CODE, 1, 1)))
