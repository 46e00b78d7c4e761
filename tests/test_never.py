"""Never papers, and the texts that are made of them."""

import random
import unittest

from amidread.formats import Format
from amidread.never import never, never_holds, pumped, sides
from amidread.pairs import corners
from amidread.papers import unsure_holds
from tests.helpers import (CODE, ITEMS, ODD_VALUES, SWAP, nested, random_format, random_formats, same, shape, spoilt,
                           with_part, written_otherwise)
from tests.test_pairs import FORMATS, LETTERS, books, plain_standings
from tests.test_papers import is_plain_unsure_paper

KINDS = Format.of("ab", (("ab", "x"), ("ab", "y")))
LEFT = Format.book("ab", ("aa", "b", "ab"))
RIGHT = LEFT.backward()
PARITY = Format.book("ab", ("aa", "ab", "ba"))
ENDLESS = [form for form in FORMATS + books(101, 25) + [KINDS, LEFT, RIGHT, PARITY]
           + random_formats(102, 25, states=6, arrows=10) if not corners(form)]
ENTERED = [form for form in FORMATS + books(103, 25) if corners(form)]


def is_plain_never_paper(form, thing):
    """Whether any value is a never paper, by the document's words."""
    if type(thing) is not tuple or len(thing) != 4:
        return False
    word, first, second, marks = thing
    if type(word) is not str or not set(word) <= set(form.letters):
        return False
    if type(marks) is not tuple or len(marks) != 3 or not all(type(mark) is int for mark in marks):
        return False
    i, j, k = marks
    if not 0 < i <= j <= k < len(word):
        return False
    for line in (first, second):
        if type(line) is not tuple or len(line) != len(word) + 1:
            return False
        if not all(any(same(part, standing) for standing in plain_standings(form)) for part in line):
            return False
        for at, letter in enumerate(word):
            if (line[at][0], letter, line[at + 1][0], line[at + 1][1]) not in form.arrows:
                return False
        if line[0] != line[i] or line[k] != line[-1]:
            return False
    return first[j] != second[j] and 0 in (first[j][0], second[j][0])


def made_otherwise(paper):
    """Other never papers: the lines exchanged, and their ends gone round once more."""
    word, first, second, (i, j, k) = paper
    before = (word[:i] + word, first[:i] + first, second[:i] + second, (i, j + i, k + i))
    longer = (word[:i] + word, first[:i] + first, second[:i] + second, (2 * i, j + i, k + i))
    behind = (word + word[k:], first + first[k + 1:], second + second[k + 1:], (i, j, k))
    later = (word + word[k:], first + first[k + 1:], second + second[k + 1:], (i, j, len(word)))
    return [(word, second, first, (i, j, k)), before, longer, behind, later]


def far_apart(form):
    """A never paper with letters between its marks."""
    word, first, second, (i, j, k) = made_otherwise(made_otherwise(never(form))[1])[4]
    return word, first, second, (i, j, k)


class Never(unittest.TestCase):
    def test_exactly_where_no_numbers_are_enough(self):
        for form in FORMATS + books(104, 60) + random_formats(105, 40, states=5, arrows=7):
            before = shape(form)
            paper = never(form)
            if corners(form):
                self.assertIsNone(paper)
            else:
                self.assertIs(never_holds(form, paper), True)
                self.assertTrue(is_plain_never_paper(form, paper))
            self.assertEqual(shape(form), before)
        self.assertGreater(len(ENDLESS), 30)
        self.assertGreater(len(ENTERED), 15)

    def test_examples(self):
        self.assertIsNone(never(CODE))
        self.assertIsNone(never(LETTERS))
        for form in (SWAP, ITEMS, KINDS, LEFT, RIGHT, PARITY, Format.of("ab", (("a", "x"), ("a", "y")))):
            self.assertIs(never_holds(form, never(form)), True)

    def test_standings_that_change_places(self):
        # Along the only letters the two ways of reading change places, over and over.
        for word in ("aa", "aaaa", "abab", "aabaab"):
            form = Format.book("ab", (word,))
            self.assertTrue(is_plain_never_paper(form, never(form)))

    def test_great_formats(self):
        chance = random.Random(106)
        for letters in ("ab", "abcde"):
            words = {"".join(chance.choice(letters) for _ in range(8)) for _ in range(12)}
            form = Format.of(letters, tuple((word, kind) for word in words for kind in ("v", "w", "x", "y", "z")))
            self.assertIs(never_holds(form, never(form)), True)
        for _ in range(10):
            form = random_format(chance, letters="abcde", states=12, arrows=300, kinds=("v", "w", "x", "y", "z"))
            self.assertIs(never_holds(form, never(form)), True)
        form = Format.book("ab", ("a" * 7, "a" * 8, "aaaaaabb", "babababa", "bbbabbba"))
        self.assertIs(never_holds(form, never(form)), True)

    def test_only_the_records_count(self):
        for form in FORMATS:
            for again in written_otherwise(form):
                paper = never(again)
                self.assertIs(paper is None, never(form) is None)
                if paper is not None:
                    self.assertIs(never_holds(again, paper), True)

    def test_by_name(self):
        self.assertIsNone(never(form=CODE))
        self.assertIs(never_holds(form=SWAP, thing=never(SWAP)), True)


class Holds(unittest.TestCase):
    def test_made_otherwise(self):
        for form in ENDLESS:
            paper = never(form)
            for other in made_otherwise(paper) + made_otherwise(far_apart(form)):
                self.assertIs(never_holds(form, other), True)
                self.assertTrue(is_plain_never_paper(form, other))

    def test_made_by_hand(self):
        item, stop, inner = (0, "item"), (0, "stop"), (1, "")
        paper = ("aba", (stop, stop, inner, inner), (inner, inner, item, stop), (1, 1, 2))
        self.assertIs(never_holds(ITEMS, paper), False)
        paper = ("abaa", (stop, stop, inner, inner, inner), (inner, inner, item, stop, stop), (1, 2, 3))
        self.assertIs(never_holds(ITEMS, paper), True)
        for marks in ((1, 1, 3), (1, 2, 3), (1, 3, 3)):
            self.assertIs(never_holds(ITEMS, paper[:3] + (marks,)), True)
        for marks in ((0, 2, 3), (2, 2, 3), (1, 0, 3), (1, 4, 3), (1, 2, 4), (1, 2, 2), (1, 3, 2), (3, 2, 1), (1, 2),
                      (1, 2, 3, 3), [1, 2, 3], (True, 2, 3), (1, 2, "3"), (1, None, 3), (-1, 2, 3), (1, 2, -1), (), 1):
            self.assertIs(never_holds(ITEMS, paper[:3] + (marks,)), False)

    def test_alike_or_without_the_border(self):
        item, inner = (0, "item"), (1, "")
        stop = (0, "stop")
        self.assertIs(never_holds(ITEMS, ("aaa", (stop,) * 4, (stop,) * 4, (1, 1, 2))), False)
        self.assertIs(never_holds(ITEMS, ("aaa", (inner,) * 4, (inner,) * 4, (1, 1, 2))), False)
        self.assertIs(never_holds(ITEMS, ("aaa", (stop,) * 4, (inner,) * 4, (1, 1, 2))), True)
        self.assertIs(never_holds(ITEMS, ("aaa", (inner,) * 4, (stop,) * 4, (1, 1, 2))), True)
        self.assertIs(never_holds(ITEMS, ("aaa", (item, stop, stop, stop), (inner,) * 4, (1, 1, 2))), False)
        # No letter a leads to an item, none from the border to an inner state.
        self.assertIs(never_holds(ITEMS, ("aaa", (item,) * 4, (inner,) * 4, (1, 1, 2))), False)
        form = Format("ab", 3, ((0, "a", 1, ""), (0, "a", 2, ""), (1, "a", 1, ""), (1, "b", 0, "x"), (2, "a", 2, ""),
                                (2, "b", 0, "x")))
        one, two = (1, ""), (2, "")
        self.assertIs(never_holds(form, ("aaa", (one,) * 4, (two,) * 4, (1, 1, 2))), False)

    def test_unlike_standings_in_one_state(self):
        one, other = (0, "x"), (0, "y")
        form = Format.of("ab", (("a", "x"), ("a", "y")))
        self.assertIs(never_holds(form, ("aa", (one,) * 3, (other,) * 3, (1, 1, 1))), True)
        self.assertIs(never_holds(form, ("aa", (one, one, one), (one, other, one), (1, 1, 1))), False)
        self.assertIs(never_holds(form, ("aaaa", (one,) * 5, (one, one, other, one, one), (1, 2, 3))), True)
        self.assertEqual(sides(("aaaa", (one,) * 5, (one, one, other, one, one), (1, 2, 3))), (True, True))

    def test_other_formats(self):
        for form in ENDLESS:
            paper = never(form)
            for other in FORMATS:
                self.assertIs(never_holds(other, paper), is_plain_never_paper(other, paper))

    def test_spoilt_papers(self):
        held = 0
        for form in ENDLESS[::3] + [SWAP, ITEMS, LEFT]:
            for paper in (never(form), far_apart(form)):
                for thing in spoilt(paper):
                    expected = is_plain_never_paper(form, thing)
                    self.assertIs(never_holds(form, thing), expected, (form.text, thing))
                    held += expected
        self.assertGreater(held, 10)

    def test_other_standings(self):
        held = 0
        for form in ENDLESS[::4] + [SWAP, ITEMS, KINDS]:
            paper = far_apart(form)
            known = plain_standings(form) + [(0, ""), (0, "other"), (1, "word"), (9, ""), (-1, ""), (False, "word"),
                                             (True, ""), [0, "word"], (0,), (0, "word", ""), 0, None, ((0, "word"),)]
            for side in (1, 2):
                for at in range(len(paper[side])):
                    for part in known:
                        thing = with_part(paper, (side, at), part)
                        expected = is_plain_never_paper(form, thing)
                        self.assertIs(never_holds(form, thing), expected)
                        held += expected
        self.assertGreater(held, 20)

    def test_any_value(self):
        for thing in ODD_VALUES:
            self.assertIs(never_holds(SWAP, thing), False)
            for at in range(4):
                self.assertIs(never_holds(SWAP, with_part(never(SWAP), (at,), thing)), False)
            self.assertIs(never_holds(SWAP, (thing,) * 4), False)
        self.assertIs(never_holds(SWAP, ("a" * 2000, (nested(30),) * 2001, (nested(30),) * 2001, (1, 2, 3))), False)

    def test_no_letters(self):
        self.assertIs(never_holds(SWAP, ("", ((0, "word"),), ((2, ""),), (0, 0, 0))), False)
        self.assertIs(never_holds(SWAP, ("a", ((0, "word"),) * 2, ((2, ""),) * 2, (0, 0, 0))), False)


class Sides(unittest.TestCase):
    def test_four_sorts(self):
        found = {}
        for form in ENDLESS:
            paper = never(form)
            told = sides(paper)
            self.assertIs(type(told), tuple)
            self.assertTrue(all(type(side) is bool for side in told))
            self.assertEqual(told, (paper[1][0][0] == paper[2][0][0], paper[1][-1][0] == paper[2][-1][0]))
            found[told] = paper
        self.assertEqual(sorted(found), [(False, False), (False, True), (True, False), (True, True)])

    def test_one_side_alone(self):
        end, inner, other = (0, "x"), (1, ""), (2, "")
        # The words aa, ab and b: at a b it is known where a record ends, ahead of it any number of letters a may stand.
        left = Format("ab", 2, ((0, "a", 1, ""), (0, "b", 0, "x"), (1, "a", 0, "x"), (1, "b", 0, "x")))
        paper = ("aabb", (end, inner, end, end, end), (inner, end, inner, end, end), (2, 2, 3))
        self.assertIs(never_holds(left, paper), True)
        self.assertEqual(sides(paper), (False, True))
        right = Format("ab", 3, ((0, "a", 1, ""), (0, "b", 0, "x"), (0, "b", 2, ""), (1, "a", 0, "x"),
                                 (2, "a", 0, "x")))
        paper = ("bbaaa", (end, end, end, inner, end, inner), (end, end, other, end, inner, end), (1, 2, 3))
        self.assertIs(never_holds(right, paper), True)
        self.assertEqual(sides(paper), (True, False))
        for form, thing in ((left, ("aabb", (end, inner, end, end, end), (inner, end, inner, end, end), (2, 2, 3))),
                            (right, paper)):
            for times in range(41):
                self.assertIs(unsure_holds(form, *pumped(form, thing, times)), True)

    def test_by_name(self):
        self.assertEqual(sides(paper=never(SWAP)), (False, False))


class Pumped(unittest.TestCase):
    def check(self, form, paper, times):
        """Checks what is made of a paper."""
        made = pumped(form, paper, times)
        self.assertIs(type(made), tuple)
        a, b, unsure_paper = made
        self.assertTrue(type(a) is type(b) is int and a >= times and b >= times)
        self.assertIs(unsure_holds(form, a, b, unsure_paper), True)
        return made

    def test_all_times(self):
        for form in ENDLESS:
            before = shape(form)
            paper = never(form)
            for times in range(41):
                self.check(form, paper, times)
            self.assertEqual(shape(form), before)

    def test_plainly(self):
        for form in (SWAP, KINDS, LEFT, RIGHT, PARITY):
            for times in (0, 1, 2, 5, 9):
                a, b, paper = self.check(form, never(form), times)
                self.assertTrue(is_plain_unsure_paper(form, a, b, paper))

    def test_papers_made_otherwise(self):
        for form in ENDLESS[::2]:
            for paper in made_otherwise(never(form)) + made_otherwise(far_apart(form)):
                for times in (0, 1, 2, 3, 4, 7, 13, 40):
                    self.check(form, paper, times)

    def test_numbers_grow(self):
        self.assertGreaterEqual(min(self.check(SWAP, never(SWAP), 40)[:2]), 40)
        self.assertGreaterEqual(min(self.check(ITEMS, never(ITEMS), 40)[:2]), 40)

    def test_great_formats(self):
        chance = random.Random(107)
        for _ in range(5):
            form = random_format(chance, letters="abcde", states=12, arrows=300)
            self.check(form, never(form), 40)

    def test_by_name(self):
        a, b, paper = pumped(form=SWAP, paper=never(SWAP), times=3)
        self.assertIs(unsure_holds(SWAP, a, b, paper), True)
