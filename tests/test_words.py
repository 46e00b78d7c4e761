import itertools
import unittest

from amidread.words import is_letters, is_repeated, is_word, least_turn, turns, words_with
from tests.helpers import ODD_VALUES, unchanged_by, words_up_to


def first_of(letters, length, many):
    return list(itertools.islice(words_with(letters, length), many))


class Letters(unittest.TestCase):
    def test_letters(self):
        for thing in ("ab", "az", "abc", "bdf", "wxyz", "abcde", "vwxyz"):
            self.assertIs(is_letters(thing), True, thing)

    def test_no_letters(self):
        for thing in ("", "a", "abcdef", "ba", "aa", "aab", "acb", "aB", "AB", "a1", "12", "a b", " a", "a ", "ab\n"):
            self.assertIs(is_letters(thing), False, thing)

    def test_any_value(self):
        for thing in ODD_VALUES:
            self.assertIs(is_letters(thing), thing in ("ab", "abc"))
            self.assertTrue(unchanged_by(is_letters, thing))
        for thing in (("a", "b"), ["a", "b"], {"a": 1, "b": 2}):
            self.assertIs(is_letters(thing), False)

    def test_by_name(self):
        self.assertIs(is_letters(thing="ab"), True)


class Words(unittest.TestCase):
    def test_words(self):
        for thing in ("", "a", "b", "ab", "ba", "aab" * 100):
            self.assertIs(is_word("ab", thing), True)
        self.assertIs(is_word("acz", "zac"), True)

    def test_no_words(self):
        for thing in ("c", "abc", "A", " ", "a b", "ab\n", "\n", "a" * 1999 + "c"):
            self.assertIs(is_word("ab", thing), False)

    def test_any_value(self):
        words = ("", "a", "b", "ab", "a" * 2000)
        for thing in ODD_VALUES:
            self.assertIs(is_word("ab", thing), isinstance(thing, str) and thing in words)
            self.assertTrue(unchanged_by(is_word, "ab", thing))
        for thing in (("a", "b"), ["a"], {"a": "b"}, [], (), {}):
            self.assertIs(is_word("ab", thing), False)

    def test_by_name(self):
        self.assertIs(is_word(letters="ab", thing="abc"), False)


class WordsWith(unittest.TestCase):
    def test_order(self):
        self.assertEqual(list(words_with("ab", 1)), ["a", "b"])
        self.assertEqual(list(words_with("ab", 2)), ["aa", "ab", "ba", "bb"])
        for letters in ("ab", "cfz", "abcde"):
            for length in range(5):
                expected = ["".join(word) for word in itertools.product(letters, repeat=length)]
                self.assertEqual(list(words_with(letters, length)), expected)
                self.assertEqual(expected, sorted(expected))

    def test_no_letters(self):
        self.assertEqual(list(words_with("ab", 0)), [""])
        self.assertEqual(list(words_with("vwxyz", 0)), [""])

    def test_long_words(self):
        self.assertEqual(first_of("ab", 400, 4), ["a" * 398 + end for end in ("aa", "ab", "ba", "bb")])
        self.assertEqual(first_of("cde", 400, 30)[27], "c" * 396 + "dccc")
        self.assertEqual(len(first_of("abcde", 400, 3000)), 3000)

    def test_side_by_side(self):
        one, other = words_with("ab", 3), words_with("ab", 3)
        mixed = []
        for _ in range(4):
            mixed.append((next(one), next(other), next(one)))
        self.assertEqual(mixed[0], ("aaa", "aaa", "aab"))
        self.assertEqual(mixed[3], ("bba", "abb", "bbb"))
        self.assertEqual(list(one), [])
        self.assertEqual(list(other), ["baa", "bab", "bba", "bbb"])

    def test_one_by_one(self):
        made = words_with("ab", 400)
        self.assertIs(iter(made), made)
        self.assertEqual(next(made), "a" * 400)

    def test_by_name(self):
        self.assertEqual(list(words_with(letters="xy", length=1)), ["x", "y"])


class Turns(unittest.TestCase):
    def test_turns(self):
        self.assertEqual(turns("a"), ("a",))
        self.assertEqual(turns("aab"), ("aab", "aba", "baa"))
        self.assertEqual(turns("baba"), ("abab", "baba"))
        self.assertEqual(turns("aaaa"), ("aaaa",))
        self.assertEqual(turns("cab"), ("abc", "bca", "cab"))

    def test_empty_word(self):
        self.assertEqual(turns(""), ("",))
        self.assertEqual(least_turn(""), "")

    def test_all_short_words(self):
        for word in words_up_to("ab", 7)[1:]:
            alike = [other for other in words_with("ab", len(word)) if other in word + word]
            self.assertEqual(turns(word), tuple(alike))
            self.assertEqual(least_turn(word), alike[0])

    def test_long_words(self):
        word = "a" * 399 + "b"
        self.assertEqual(len(turns(word)), 400)
        self.assertEqual(least_turn(word[200:] + word[:200]), word)
        self.assertEqual(turns("ba" * 200), ("ab" * 200, "ba" * 200))
        self.assertEqual(turns("a" * 400), ("a" * 400,))

    def test_by_name(self):
        self.assertEqual([turns(word="ba"), least_turn(word="ba")], [("ab", "ba"), "ab"])


class Repeated(unittest.TestCase):
    def test_repeated(self):
        for word in ("aa", "bbb", "abab", "aabaab", "aaaa"):
            self.assertIs(is_repeated(word), True, word)
        for word in ("a", "ab", "aab", "aba", "ababa", "abba", "aabaa"):
            self.assertIs(is_repeated(word), False, word)

    def test_all_short_words(self):
        for word in words_up_to("ab", 8)[1:]:
            size = len(word)
            expected = any(word == word[:n] * (size // n) for n in range(1, size) if size % n == 0)
            self.assertIs(is_repeated(word), expected, word)

    def test_long_words(self):
        self.assertIs(is_repeated("a" * 400), True)
        self.assertIs(is_repeated("a" * 397), True)
        self.assertIs(is_repeated("a" * 199 + "b" + "a" * 199 + "b"), True)
        self.assertIs(is_repeated("a" * 399 + "b"), False)
        self.assertIs(is_repeated("ab" * 199 + "ba"), False)

    def test_by_name(self):
        self.assertIs(is_repeated(word="aa"), True)
