"""How words are read, and which words can be."""

import random
import time
import unittest

from amidread.errors import NoReading, TwoReadings
from amidread.formats import Format
from amidread.texts import is_text, letters_of, read, readings, two_readings, words_of
from tests.helpers import (CODE, ITEMS, SWAP, error_of, first_of, random_formats, same, shape, spelt, texts_up_to,
                           words_up_to, written_otherwise)
from tests.test_joining import crowd

KINDS = Format.of("ab", (("ab", "x"), ("ab", "y"), ("b", "y"), ("a", "z"), ("aba", "x")))
RUNS = Format.of("ab", (("a", "x"), ("a", "y"), ("aa", "x"), ("aaa", "x")))
FORMATS = [CODE, SWAP, ITEMS, KINDS, RUNS] + random_formats(41, 25, states=3, arrows=6) + random_formats(42, 6)


def texts_by_letters(form, length):
    """A dict from the words of at most so many letters to the sorted list of the texts with these letters."""
    found = {word: [] for word in words_up_to(form.letters, length)}
    for text in texts_up_to(form, length):
        found[spelt(text)[0]].append(text)
    return {word: sorted(texts) for word, texts in found.items()}


class Readings(unittest.TestCase):
    def test_all_texts_of_short_words(self):
        for form in FORMATS:
            before = shape(form)
            for word, texts in texts_by_letters(form, 6).items():
                self.assertEqual(list(readings(form, word)), texts, word)
            self.assertEqual(shape(form), before)

    def test_order(self):
        self.assertEqual(list(readings(KINDS, "aba")), [
            (("a", "z"), ("b", "y"), ("a", "z")), (("ab", "x"), ("a", "z")), (("ab", "y"), ("a", "z")),
            (("aba", "x"),)])

    def test_none(self):
        for form, word in ((CODE, "aaba"), (CODE, "b"), (ITEMS, "ab"), (SWAP, "aab"), (CODE, "aab" * 100 + "a")):
            self.assertEqual(list(readings(form, word)), [])

    def test_empty_word(self):
        for form in FORMATS:
            self.assertEqual(list(readings(form, "")), [()])

    def test_each_text_once(self):
        # The copies of the machine lead along the same records in many ways.
        form = RUNS | RUNS.backward().backward() | KINDS | RUNS
        found = list(readings(form, "aabaab"))
        self.assertEqual(found, sorted(set(found)))
        self.assertEqual(found, list(readings(RUNS | KINDS, "aabaab")))
        self.assertGreater(len(found), 100)

    def test_first_ones_soon(self):
        for form in (RUNS, RUNS | RUNS, Format("ab", 1, ((0, "a", 0, "x"), (0, "a", 0, "y"), (0, "b", 0, "x")))):
            found = first_of(readings(form, "a" * 100), 300)
            self.assertEqual(len(found), 300)
            self.assertEqual(found, sorted(set(found)))
            self.assertEqual(found[0], (("a", "x"),) * 100)
            self.assertEqual(found[1], (("a", "x"),) * 99 + (("a", "y"),))
            self.assertTrue(all(is_text(form, text) and letters_of(text) == "a" * 100 for text in found))

    def test_dead_ends(self):
        # Every beginning can be read in very many ways, the whole word in none, or in one.
        form = RUNS | Format.of("ab", (("a" * 10 + "b", "z"),))
        self.assertEqual(list(readings(form, "a" * 90 + "ba" + "b")), [])
        found = first_of(readings(form, "a" * 90 + "b"), 3)
        self.assertEqual(found[0], (("a", "x"),) * 80 + (("a" * 10 + "b", "z"),))
        last = Format.of("ab", (("aa", "x"), ("aaa", "x"), ("b", "x")))
        self.assertEqual(list(readings(last, "a" * 200 + "bab")), [])

    def test_few_readings_of_long_words(self):
        form = Format.book("ab", ("a", "ab", "bb"))
        self.assertEqual(list(readings(form, "a" + "b" * 398)), [(("a", "word"),) + (("bb", "word"),) * 199])
        self.assertEqual(list(readings(form, "a" + "b" * 399)), [(("ab", "word"),) + (("bb", "word"),) * 199])

    def test_side_by_side(self):
        one, other = readings(RUNS, "a" * 60), readings(RUNS, "a" * 60)
        alone = first_of(readings(RUNS, "a" * 60), 20)
        self.assertEqual([next(one) for _ in range(10)], alone[:10])
        self.assertEqual([next(other) for _ in range(20)], alone)
        self.assertEqual([next(one) for _ in range(10)], alone[10:])

    def test_by_name(self):
        self.assertEqual(list(readings(form=CODE, word="aababb")), [(("aab", "word"), ("abb", "word"))])


class Read(unittest.TestCase):
    def test_example(self):
        self.assertEqual(read(ITEMS, "aba" + "b"), (("a", "stop"), ("bab", "item")))

    def test_short_words(self):
        for form in FORMATS:
            for word, texts in texts_by_letters(form, 6).items():
                error = error_of(read, form, word)
                if len(texts) == 1:
                    self.assertTrue(same(read(form, word), texts[0]))
                elif texts:
                    self.assertIs(type(error), TwoReadings)
                    self.assertEqual((error.one, error.other), (texts[0], texts[1]))
                else:
                    self.assertIs(type(error), NoReading)
                    self.assertEqual(error.word, word)

    def test_empty_word(self):
        for form in FORMATS:
            self.assertEqual(read(form, ""), ())

    def test_long_words(self):
        text = (("b" + "a" * 97 + "b", "item"), ("a", "stop")) * 4
        self.assertEqual(read(ITEMS, letters_of(text)), text)
        self.assertEqual(read(CODE, "aab" * 133), (("aab", "word"),) * 133)
        error = error_of(read, CODE, "aab" * 133 + "a")
        self.assertEqual((type(error), error.word), (NoReading, "aab" * 133 + "a"))
        error = error_of(read, ITEMS, "a" * 399 + "b")
        self.assertEqual((type(error), error.word), (NoReading, "a" * 399 + "b"))

    def test_long_words_with_very_many_readings(self):
        error = error_of(read, RUNS, "a" * 400)
        self.assertIs(type(error), TwoReadings)
        self.assertEqual(error.one, (("a", "x"),) * 400)
        self.assertEqual(error.other, (("a", "x"),) * 399 + (("a", "y"),))
        self.assertIs(type(error_of(read, RUNS, "a" * 399 + "b")), NoReading)

    def test_great_formats(self):
        chance = random.Random(43)
        for letters, kinds in (("ab", ("v", "w", "x", "y", "z")), ("abcde", ("x", "y"))):
            form = crowd(44, letters, kinds)
            words = first_of(words_of(form), 300)[1:]
            word = "".join(chance.choice(words) for _ in range(100))[:380]
            texts = first_of(readings(form, word), 2)
            error = error_of(read, form, word)
            if len(texts) == 2:
                self.assertEqual((error.one, error.other), tuple(texts))
            elif texts:
                self.assertEqual(read(form, word), texts[0])
            else:
                self.assertEqual(error.word, word)

    def test_what_two_readings_returned(self):
        form = Format.of("ab", (("aab", "x"), ("a", "x"), ("baab", "y"), ("bb", "y"), ("abba", "z")))
        found = two_readings(form)
        error = error_of(read, form, letters_of(found[0]))
        self.assertEqual((error.one, error.other), found)

    def test_by_name(self):
        self.assertEqual(read(form=CODE, word="aab"), (("aab", "word"),))


class WordsOf(unittest.TestCase):
    def test_all_short_words(self):
        for form in FORMATS:
            expected = [word for word, texts in texts_by_letters(form, 7).items() if texts]
            self.assertEqual(first_of(words_of(form), len(expected)), expected)

    def test_order(self):
        self.assertEqual(first_of(words_of(SWAP), 8), ["", "ab", "ba", "abab", "abba", "baab", "baba", "ababab"])
        self.assertEqual(first_of(words_of(ITEMS), 7), ["", "a", "aa", "bb", "aaa", "abb", "bab"])

    def test_words_with_many_readings_come_once(self):
        self.assertEqual(first_of(words_of(RUNS), 60), ["a" * length for length in range(60)])
        both = Format.of("ab", (("a", "x"), ("a", "y"), ("b", "x"), ("ab", "x"), ("ba", "y")))
        self.assertEqual(first_of(words_of(both), 2 ** 10 - 1), words_up_to("ab", 9))

    def test_few_and_long_records(self):
        form = Format.of("ab", (("ab" * 150, "x"),))
        self.assertEqual(first_of(words_of(form), 6), ["ab" * 150 * many for many in range(6)])
        words = ("a" * 58 + "b", "b" * 59)
        form = Format.book("ab", words[::-1])
        self.assertEqual(first_of(words_of(form), 7),
                         ["", *words] + [one + other for one in words for other in words])
        sizes = Format.book("ab", ("a" * 50, "a" * 57))
        expected = sorted({50 * i + 57 * j for i in range(40) for j in range(40)})[:40]
        self.assertEqual(first_of(words_of(sizes), 40), ["a" * size for size in expected])

    def test_many_states(self):
        for form in (crowd(45, "ab", ("x", "y")), crowd(46, "abcde", ("x",))):
            found = first_of(words_of(form), 2000)
            self.assertEqual(len(found), 2000)
            self.assertEqual(found, sorted(set(found), key=lambda word: (len(word), word)))
            for word in found[::100]:
                self.assertNotIsInstance(error_of(read, form, word), NoReading)

    def test_endless(self):
        self.assertEqual(len(first_of(words_of(CODE), 5000)), 5000)
        self.assertEqual(len(first_of(words_of(Format.book("ab", ("ab",))), 300)[299]), 598)

    def test_side_by_side(self):
        alone = first_of(words_of(ITEMS), 40)
        one, other = words_of(ITEMS), words_of(ITEMS)
        mixed = []
        for _ in range(20):
            mixed.append((next(one), next(other), next(one)))
        self.assertEqual([word for first, _, second in mixed for word in (first, second)], alone)
        self.assertEqual([word for _, word, _ in mixed], alone[:20])

    def test_only_the_records_count(self):
        for form in FORMATS:
            for again in written_otherwise(form):
                self.assertEqual(first_of(words_of(again), 50), first_of(words_of(form), 50))
                for word in first_of(words_of(form), 12):
                    self.assertEqual(first_of(readings(again, word), 20), first_of(readings(form, word), 20))

    def test_one_by_one(self):
        start = time.process_time()
        for made in (words_of(crowd(47, "ab", ("x",))), readings(RUNS, "a" * 400)):
            self.assertIs(iter(made), made)
            next(made)
        self.assertLess(time.process_time() - start, 5)

    def test_by_name(self):
        self.assertEqual(next(words_of(form=CODE)), "")
