"""The fewest words that must be left out, the papers for them, and markers."""

import itertools
import random
import unittest

from amidread.changes import fewest_out, least_marker, out_holds
from amidread.commafree import comma_free_book
from amidread.formats import Format
from amidread.never import never, never_holds
from amidread.pairs import corners
from amidread.rings import book_with
from tests.helpers import (ODD_VALUES, enterable, error_of, nested, part_at, paths_in, spoilt, spoilt_parts,
                           unchanged_by, with_part, words_up_to)

CHANCE = random.Random(131)


def drawn(many, length, letters="ab"):
    """So many words, at most, of at most so many letters, in any order."""
    made = [CHANCE.choice(words_up_to(letters, length)[1:]) for _ in range(many)]
    return tuple(dict.fromkeys(made))


POWERS = ("a", "aa", "aaa", "aaaa", "aaaaa", "bb", "bbb", "bbbb")
BOOKS = ([drawn(CHANCE.randint(1, 5), 4) for _ in range(60)] + [drawn(8, 5) for _ in range(25)]
         + [drawn(8, 3, "abc") for _ in range(15)]
         + [(), ("a",), ("aa",), ("ab", "ba"), ("aab", "abb"), ("a", "aa"), ("bb", "aa", "abab"), POWERS])


def fewest_by_trying(words):
    """The number of words that must be left out, by trying sets of them."""
    for many in range(len(words) + 1):
        for out in itertools.combinations(words, many):
            if enterable([word for word in words if word not in out]):
                return many


def in_order(words, thing):
    """Whether any value is a tuple of words of a book, in its order."""
    return type(thing) is tuple and any(thing == part for many in range(len(words) + 1)
                                        for part in itertools.combinations(words, many))


def is_plain_paper(letters, words, thing):
    """Whether any value is a paper for what is to be left out, by the document's words."""
    if type(thing) is not tuple or len(thing) != 2 or not in_order(words, thing[0]) or type(thing[1]) is not tuple:
        return False
    out, parts = thing
    for part in parts:
        if type(part) is not tuple or len(part) != 2 or part[0] == () or not in_order(words, part[0]):
            return False
        if not never_holds(Format.book(letters, part[0]), part[1]):
            return False
    if not enterable([word for word in words if word not in out]):
        return False
    return all(any(not set(part[0]) & set(fewer) for part in parts)
               for many in range(len(out)) for fewer in itertools.combinations(words, many))


def letters_for(words):
    return "abc" if "c" in "".join(words) else "ab"


def with_all_parts(letters, words, out):
    """A paper that has all parts that there are."""
    parts = [part for many in range(1, len(words) + 1) for part in itertools.combinations(words, many)]
    return out, tuple((part, never(Format.book(letters, part))) for part in parts if not enterable(part))


class FewestOut(unittest.TestCase):
    def test_accepted(self):
        numbers = set()
        for words in BOOKS:
            letters = letters_for(words)
            paper = fewest_out(letters, words)
            self.assertIs(out_holds(letters, words, paper), True)
            self.assertTrue(is_plain_paper(letters, words, paper))
            numbers.add(len(paper[0]))
        self.assertGreater(len(numbers), 5)

    def test_as_few_as_possible(self):
        for words in BOOKS:
            out, parts = fewest_out(letters_for(words), words)
            self.assertEqual(len(out), fewest_by_trying(words))
            self.assertEqual(out, tuple(word for word in words if word in out))

    def test_nothing_is_left_out(self):
        for words in BOOKS:
            out, parts = fewest_out(letters_for(words), words)
            free = words == () or corners(Format.book(letters_for(words), words)) != ()
            self.assertIs(out == (), free)
            if free:
                self.assertEqual(parts, ())

    def test_the_empty_book(self):
        self.assertEqual(fewest_out("ab", ()), ((), ()))

    def test_all_is_left_out(self):
        self.assertEqual(fewest_out("ab", ("aa", "bb", "abab"))[0], ("aa", "bb", "abab"))
        self.assertEqual(fewest_out("ab", ("bb", "aa"))[0], ("bb", "aa"))

    def test_few(self):
        self.assertEqual(len(fewest_out("ab", ("ab", "ba"))[0]), 1)
        self.assertEqual(len(fewest_out("ab", ("a", "b", "ab"))[0]), 1)
        self.assertEqual(fewest_out("ab", ("aab", "bb", "abb"))[0], ("bb",))
        self.assertEqual(len(fewest_out("ab", POWERS)[0]), 7)

    def test_what_was_returned(self):
        for letters, words in (("ab", book_with("ab", (0, 1, 1, 2, 3, 4, 5, 9))), ("ab", comma_free_book("ab", 11)),
                               ("abcd", comma_free_book("abcd", 5))):
            self.assertEqual(fewest_out(letters, words), ((), ()))
            self.assertIs(out_holds(letters, words, ((), ())), True)
            changed = words[:2] + ("a" * len(words[2]), ) + words[3:]
            out, parts = fewest_out(letters, changed)
            self.assertEqual(out, ("a" * len(words[2]),))
            self.assertIs(out_holds(letters, changed, (out, parts)), True)

    def test_by_name(self):
        self.assertEqual(fewest_out(letters="ab", words=("aa",))[0], ("aa",))
        paper = fewest_out("ab", ("aa",))
        self.assertIs(out_holds(letters="ab", words=("aa",), thing=paper), True)


class OutHolds(unittest.TestCase):
    def test_other_papers(self):
        for words in BOOKS[::2]:
            if len(words) <= 6:
                letters = letters_for(words)
                out, parts = with_all_parts(letters, words, fewest_out(letters, words)[0])
                self.assertIs(out_holds(letters, words, (out, parts)), True)
                for at in range(len(parts)):
                    thing = (out, parts[:at] + parts[at + 1:])
                    self.assertIs(out_holds(letters, words, thing), is_plain_paper(letters, words, thing))
                self.assertIs(out_holds(letters, words, (out, parts[::-1] + parts)), True)

    def test_too_few_or_too_many(self):
        for words in BOOKS:
            letters = letters_for(words)
            out, parts = fewest_out(letters, words)
            for many in range(len(words) + 1):
                if len(words) <= 6 or many in (len(out), len(out) - 1):
                    for other in itertools.combinations(words, many):
                        thing = (other, parts)
                        expected = many == len(out) and enterable([word for word in words if word not in other])
                        self.assertIs(out_holds(letters, words, thing), expected)

    def test_too_many_with_all_parts(self):
        for words in (("ab", "ba"), ("aa", "b", "ab"), ("a", "aa", "b")):
            out, parts = with_all_parts("ab", words, fewest_out("ab", words)[0])
            for many in range(len(words) + 1):
                for other in itertools.combinations(words, many):
                    self.assertIs(out_holds("ab", words, (other, parts)), is_plain_paper("ab", words, (other, parts)))

    def test_more_words_in_a_part(self):
        words = ("aa", "bb", "ab", "aab")
        out, parts = fewest_out("ab", words)
        self.assertEqual(out, ("aa", "bb"))
        # All words together are in each set that leaves something out, so such a part is of no use alone.
        whole = (words, never(Format.book("ab", words)))
        self.assertIs(out_holds("ab", words, (out, parts + (whole,))), True)
        self.assertIs(out_holds("ab", words, (out, (whole,))), False)
        for extra in ("bb", "ab", "aab"):
            more = tuple(word for word in words if word in ("aa", extra))
            part = (more, never(Format.book("ab", more)))
            thing = (out, tuple(part if few == ("aa",) else (few, paper) for few, paper in parts))
            self.assertIs(out_holds("ab", words, thing), is_plain_paper("ab", words, thing))

    def test_out_of_order(self):
        words = ("bb", "aa", "ab")
        out, parts = fewest_out("ab", words)
        self.assertIs(out_holds("ab", words, (out, parts)), True)
        self.assertIs(out_holds("ab", words, (out[::-1], parts)), False)
        self.assertIs(out_holds("ab", words, (out + out[:1], parts)), False)
        self.assertIs(out_holds("ab", words, (out[:1] + out, parts)), False)
        two = ("bb", "aa")
        paper = never(Format.book("ab", two))
        self.assertIs(out_holds("ab", words, (out, parts + ((two, paper),))), True)
        self.assertIs(out_holds("ab", words, (out, parts + ((two[::-1], paper),))), False)
        self.assertIs(out_holds("ab", words, (out, parts + (((), paper),))), False)
        self.assertIs(out_holds("ab", words, (out, parts + ((("bb", "bb", "aa"), paper),))), False)
        self.assertIs(out_holds("ab", words, (out, parts + ((("bb", "aa", "b"), paper),))), False)

    def test_papers_of_other_words(self):
        words = ("ab", "ba", "aa")
        out, parts = fewest_out("ab", words)
        for at, (few, paper) in enumerate(parts):
            for other in (("ab",), ("ab", "ba"), ("ba", "aa"), ("aa",)):
                if other != few and not enterable(other):
                    thing = (out, parts[:at] + ((other, paper),) + parts[at + 1:])
                    self.assertIs(out_holds("ab", words, thing), is_plain_paper("ab", words, thing))
                    strange = never(Format.book("ab", other))
                    thing = (out, parts[:at] + ((few, strange),) + parts[at + 1:])
                    self.assertIs(out_holds("ab", words, thing), is_plain_paper("ab", words, thing))
        self.assertIs(out_holds("ab", words, (out, parts + ((("ab",), None),))), False)

    def test_spoilt_papers(self):
        held = 0
        for words in (("ab", "ba"), ("aa", "b", "ab"), ("bb", "aa"), ("a", "ab", "b"), ("aab", "abb"), ()):
            paper = fewest_out("ab", words)
            for thing in spoilt(paper):
                expected = is_plain_paper("ab", words, thing)
                self.assertIs(out_holds("ab", words, thing), expected, thing)
                held += expected
        self.assertGreater(held, 3)

    def test_any_value(self):
        for words in ((), ("ab", "ba"), ("aab", "abb")):
            paper = fewest_out("ab", words)
            for thing in ODD_VALUES + ([(), ()], ((), []), ([], ()), ((), (), ()), ((),)):
                self.assertIs(out_holds("ab", words, thing), False)
                for path in paths_in(paper):
                    changed = with_part(paper, path, thing)
                    self.assertIs(out_holds("ab", words, changed), is_plain_paper("ab", words, changed))
        self.assertIs(out_holds("ab", ("aa",), ((nested(30),) * 5000, ())), False)

    def test_many_parts(self):
        words = ("a", "aa", "aaa", "aaaa", "b", "bb", "bbb", "bbbb")
        out, parts = with_all_parts("ab", words, fewest_out("ab", words)[0])
        self.assertGreater(len(parts), 200)
        self.assertIs(out_holds("ab", words, (out, parts)), True)
        great = tuple(part for part in parts if len(part[0]) > 4)
        self.assertIs(out_holds("ab", words, (out, great)), False)

    def test_arguments_stay(self):
        words = ("ab", "ba", "aa")
        paper = fewest_out("ab", words)
        self.assertTrue(unchanged_by(out_holds, "ab", words, [list(paper[0]), paper[1]]))
        self.assertIsNone(error_of(out_holds, "ab", words, {}))
        self.assertEqual(part_at(paper, (0,)), paper[0])
        self.assertTrue(spoilt_parts(paper))


def marked(marker, words):
    return tuple(marker + word for word in words)


class LeastMarker(unittest.TestCase):
    def check(self, letters, words):
        """Checks the first marker of a book by trying all words ahead of it."""
        marker = least_marker(letters, words)
        self.assertTrue(enterable(marked(marker, words)))
        for word in words_up_to(letters, len(marker)):
            if word == marker:
                break
            self.assertFalse(enterable(marked(word, words)), (words, word, marker))
        return marker

    def test_small_books(self):
        found = set()
        words = words_up_to("ab", 3)[1:]
        for many in range(1, 3):
            for book in itertools.combinations(words, many):
                found.add(self.check("ab", book))
        for _ in range(150):
            found.add(self.check("ab", drawn(4, 3)))
        self.assertGreater(len(found), 5)
        self.assertIn("", found)

    def test_corners(self):
        for _ in range(40):
            book = drawn(4, 3)
            words = marked(least_marker("ab", book), book)
            self.assertNotEqual(corners(Format.book("ab", words)), ())

    def test_entered_anywhere_already(self):
        for words in ((), ("a",), ("aab", "abb"), ("a", "b"), ("ab",)):
            self.assertEqual(least_marker("ab", words), "")
        self.assertEqual(least_marker("ab", comma_free_book("ab", 9)), "")
        self.assertEqual(least_marker("abc", book_with("abc", (0, 1, 4, 10, 20))), "")

    def test_other_letters(self):
        for words in (("aa",), ("cc", "c"), ("ac", "ca", "b"), ("a", "b", "c", "ab")):
            self.check("abc", words)
        for words in (("xx",), ("xz", "zx"), ("x", "xx", "xxx", "zz")):
            self.check("xz", words)

    def test_longest(self):
        # One more a than stand in a row, and then b, is always a marker.
        self.assertLessEqual(max(len(least_marker("ab", drawn(4, 3))) for _ in range(300)), 5)

    def test_by_name(self):
        self.assertEqual(least_marker(letters="ab", words=("a",)), "")
