"""Comma-free books."""

import itertools
import random
import unittest

from amidread.commafree import comma_free_book, is_comma_free, marked_turn
from amidread.errors import EvenLength
from amidread.formats import Format
from amidread.pairs import corners
from amidread.rings import letter_rings
from amidread.words import is_repeated, turns, words_with
from tests.helpers import enterable, error_of

GREATEST = (("ab", 13), ("abc", 9), ("abcd", 7), ("abcde", 5))
ODD = [(letters, length) for letters, most in GREATEST for length in range(1, most + 1, 2)] + [("xz", 7), ("bdfh", 5)]


def is_plain_comma_free(words):
    """Whether a tuple of words of one length is comma-free, by the document's words."""
    for one in words:
        for other in words:
            for at in range(1, len(one)):
                if (one + other)[at:at + len(one)] in words:
                    return False
    return True


class IsCommaFree(unittest.TestCase):
    def test_none(self):
        self.assertIs(is_comma_free(()), True)

    def test_one_word(self):
        # Joined with itself, a word is seen between if it is repeated, and only then.
        for length in range(1, 7):
            for word in words_with("ab", length):
                self.assertIs(is_comma_free((word,)), not is_repeated(word))

    def test_seen_between(self):
        self.assertIs(is_comma_free(("ab", "ba")), False)
        self.assertIs(is_comma_free(("aab", "abb")), True)
        self.assertIs(is_comma_free(("aab", "bba", "abb")), False)
        # Joined in one order only, or by two words of which it is neither.
        self.assertIs(is_comma_free(("abc", "cab")), False)
        self.assertIs(is_comma_free(("aac", "bbc", "acb")), False)
        self.assertIs(is_comma_free(("aac", "bbc", "cbb")), False)
        self.assertIs(is_comma_free(("aac", "bbc", "abc")), True)

    def test_one_letter(self):
        for words in (("a",), ("a", "b"), ("a", "b", "c", "d", "e")):
            self.assertIs(is_comma_free(words), True)

    def test_all_small_books(self):
        told = []
        for letters, length, most in (("ab", 2, 3), ("ab", 3, 4), ("ab", 4, 3), ("abc", 2, 4), ("abc", 3, 2)):
            words = list(words_with(letters, length))
            for many in range(most + 1):
                for book in itertools.combinations(words, many):
                    told.append(is_comma_free(book))
                    self.assertIs(told[-1], is_plain_comma_free(book))
        self.assertGreater(min(told.count(True), told.count(False)), 100)

    def test_any_order(self):
        chance = random.Random(121)
        for _ in range(300):
            words = list(words_with("ab", 5))
            chance.shuffle(words)
            book = tuple(words[:chance.randint(2, 5)])
            self.assertIs(is_comma_free(book), is_plain_comma_free(book))

    def test_can_be_entered_anywhere(self):
        for words in itertools.combinations(words_with("ab", 4), 2):
            if is_comma_free(words):
                self.assertNotEqual(corners(Format.book("ab", words)), ())
                self.assertTrue(enterable(words))

    def test_great(self):
        words = comma_free_book("abcd", 7)
        self.assertIs(is_comma_free(words), True)
        self.assertIs(is_comma_free(words[:-1] + (words[0][1:] + words[0][0],)), False)

    def test_by_name(self):
        self.assertIs(is_comma_free(words=("ab",)), True)


class CommaFreeBook(unittest.TestCase):
    def test_all_odd_lengths(self):
        for letters, length in ODD:
            book = comma_free_book(letters, length)
            self.assertIs(type(book), tuple)
            self.assertEqual(len(book), letter_rings(len(letters), length))
            self.assertEqual(book, tuple(sorted(set(book))))
            self.assertTrue(all(len(word) == length and set(word) <= set(letters) for word in book))
            self.assertIs(is_comma_free(book), True)
            if len(book) < 400:
                self.assertTrue(is_plain_comma_free(book))

    def test_one_letter(self):
        self.assertEqual(comma_free_book("ab", 1), ("a", "b"))
        self.assertEqual(comma_free_book("acz", 1), ("a", "c", "z"))

    def test_even_lengths(self):
        for letters in ("ab", "abcde"):
            for length in (2, 4, 6, 8, 10, 12, 14, 16):
                error = error_of(comma_free_book, letters, length)
                self.assertIs(type(error), EvenLength)
                self.assertEqual(error.length, length)

    def test_can_be_entered_anywhere(self):
        for letters, length in (("ab", 3), ("ab", 5), ("abc", 3)):
            self.assertNotEqual(corners(Format.book(letters, comma_free_book(letters, length))), ())
        for letters, length in (("ab", 9), ("abc", 5), ("abcde", 3)):
            self.assertTrue(enterable(comma_free_book(letters, length)))

    def test_the_same_again(self):
        self.assertEqual(comma_free_book("ab", 11), comma_free_book("ab", 11))

    def test_by_name(self):
        self.assertEqual(len(comma_free_book(letters="ab", length=3)), 2)


class MarkedTurn(unittest.TestCase):
    def test_all_words(self):
        for letters, length in (("ab", 1), ("ab", 3), ("ab", 7), ("ab", 9), ("abc", 5), ("abcde", 3), ("xz", 5)):
            book = set(comma_free_book(letters, length))
            for word in words_with(letters, length):
                if not is_repeated(word):
                    self.assertEqual([marked_turn(letters, word)], [turn for turn in turns(word) if turn in book])

    def test_all_turns(self):
        chance = random.Random(122)
        for letters, length in GREATEST:
            book = set(comma_free_book(letters, length))
            for _ in range(60):
                word = "".join(chance.choice(letters) for _ in range(length))
                if not is_repeated(word):
                    found = {marked_turn(letters, turn) for turn in turns(word)}
                    self.assertEqual(len(found), 1)
                    self.assertTrue(found <= book & set(turns(word)))

    def test_the_book_is_made_of_them(self):
        for letters, length in GREATEST:
            for word in comma_free_book(letters, length):
                self.assertEqual(marked_turn(letters, word), word)

    def test_by_name(self):
        self.assertEqual(marked_turn(letters="ab", word="b"), "b")
