"""Standings, pairs, steps, witnesses, reaches, and the numbers that are enough."""

import random
import unittest

from amidread.formats import Format
from amidread.pairs import corners, is_enough, reach_in, reach_out, standings, steps, witnesses
from tests.helpers import (CODE, ITEMS, SWAP, enough_by_rows, random_formats, shape, written_otherwise)
from tests.test_joining import crowd

BORDER = (0, "word")
LETTERS = Format.book("ab", ("a", "b"))
KINDS = Format.of("ab", (("ab", "x"), ("bb", "y"), ("aab", "x")))
FORMATS = ([CODE, SWAP, ITEMS, LETTERS, KINDS, Format.book("ab", ("a", "ba")), Format.of("ab", (("a", "x"), ("b", "y")))]
           + random_formats(61, 20, states=3, arrows=5) + random_formats(62, 12, states=5, arrows=8)
           + random_formats(63, 8, letters="abc", states=4, arrows=7))


def plain_standings(form):
    return sorted({(target, kind) for source, letter, target, kind in form.arrows})


def plain_pairs(form):
    return [(x, y) for x in plain_standings(form) for y in plain_standings(form) if x <= y]


def plain_steps(form, pair):
    """The steps from a pair, by the document's words."""
    x, y = pair
    found = set()
    for u, v in plain_pairs(form):
        for letter in form.letters:
            def leads(one, other):
                return (one[0], letter, other[0], other[1]) in form.arrows
            if leads(x, u) and leads(y, v) or leads(x, v) and leads(y, u):
                found.add((letter, (u, v)))
    return sorted(found)


def plain_reaches(links):
    """A dict from each pair to the greatest number of links in a row, or None; more than there are pairs never end."""
    found = {}
    left = set(links)
    for number in range(len(links) + 1):
        longer = {pair for pair in left if any(other in left for other in links[pair])}
        found.update({pair: number for pair in left - longer})
        left = longer
    return {pair: found.get(pair) for pair in links}


def plain_links(form):
    """Two dicts: from each pair to those to which steps lead, and to those from which they lead."""
    out = {pair: [other for _, other in plain_steps(form, pair)] for pair in plain_pairs(form)}
    return out, {pair: [other for other in out if pair in out[other]] for pair in out}


def plain_corners(enough, size):
    """The corners among numbers below a size, for a dict that tells of all of these whether they are enough."""
    return tuple((a, b) for a in range(size) for b in range(size) if enough[a, b]
                 and not (a > 0 and enough[a - 1, b]) and not (b > 0 and enough[a, b - 1]))


class Standings(unittest.TestCase):
    def test_ordinary(self):
        self.assertEqual(standings(LETTERS), (BORDER,))
        self.assertEqual(standings(ITEMS), ((0, "item"), (0, "stop"), (1, "")))
        self.assertEqual(standings(Format.of("ab", (("a", "y"), ("b", "x"), ("a", "x")))), ((0, "x"), (0, "y")))

    def test_all(self):
        for form in FORMATS:
            self.assertEqual(standings(form), tuple(plain_standings(form)))

    def test_by_name(self):
        self.assertEqual(standings(form=LETTERS), (BORDER,))


class Steps(unittest.TestCase):
    def test_ordinary(self):
        stop, item, inner = (0, "stop"), (0, "item"), (1, "")
        self.assertEqual(steps(ITEMS, (stop, inner)), (("a", (stop, inner)), ("b", (item, inner))))
        self.assertEqual(steps(ITEMS, (item, stop)), (("a", (stop, stop)), ("b", (inner, inner))))
        self.assertEqual(steps(ITEMS, (inner, inner)), (("a", (inner, inner)), ("b", (item, item))))

    def test_exchange(self):
        # With a the border goes to state 2 and state 1 to itself: no pair is turned round for it.
        form = Format("ab", 3, ((0, "a", 2, ""), (0, "b", 1, ""), (1, "a", 1, ""), (1, "b", 0, "x"), (2, "b", 0, "x")))
        self.assertEqual(steps(form, ((0, "x"), (1, ""))), (("a", ((1, ""), (2, ""))), ("b", ((0, "x"), (1, "")))))

    def test_none(self):
        self.assertEqual(steps(KINDS, ((0, "x"), next(s for s in standings(KINDS) if s[0] == 3))),
                         tuple(plain_steps(KINDS, ((0, "x"), (3, "")))))
        form = Format.book("ab", ("aa", "b" * 3))
        self.assertEqual(steps(form, ((1, ""), (2, ""))), ())

    def test_all(self):
        for form in FORMATS:
            before = shape(form)
            for pair in plain_pairs(form):
                self.assertEqual(steps(form, pair), tuple(plain_steps(form, pair)))
            self.assertEqual(shape(form), before)

    def test_by_name(self):
        self.assertEqual(steps(form=LETTERS, pair=(BORDER, BORDER)),
                         (("a", (BORDER, BORDER)), ("b", (BORDER, BORDER))))


class Witnesses(unittest.TestCase):
    def test_ordinary(self):
        self.assertEqual(witnesses(LETTERS), ())
        self.assertEqual(witnesses(ITEMS), (((0, "item"), (0, "stop")), ((0, "item"), (1, "")), ((0, "stop"), (1, ""))))
        self.assertEqual(witnesses(CODE), tuple((BORDER, (state, "")) for state in range(1, CODE.states)))

    def test_all(self):
        for form in FORMATS:
            self.assertEqual(witnesses(form), tuple((x, y) for x, y in plain_pairs(form)
                                                    if x != y and 0 in (x[0], y[0])))

    def test_by_name(self):
        self.assertEqual(witnesses(form=LETTERS), ())


class Reach(unittest.TestCase):
    def test_example(self):
        self.assertIsNone(reach_in(CODE, (BORDER, BORDER)))
        self.assertIsNone(reach_out(CODE, (BORDER, BORDER)))

    def test_no_steps(self):
        form = Format.of("ab", (("a", "x"), ("b", "y")))
        self.assertEqual(reach_in(form, ((0, "x"), (0, "y"))), 0)
        self.assertIsNone(reach_out(form, ((0, "x"), (0, "y"))))

    def test_all(self):
        together = 0
        for form in FORMATS:
            before = shape(form)
            out, into = plain_links(form)
            outs, ins = plain_reaches(out), plain_reaches(into)
            for pair in plain_pairs(form):
                self.assertEqual(reach_out(form, pair), outs[pair])
                self.assertEqual(reach_in(form, pair), ins[pair])
                together += ins[pair] is None
                if pair[0] == pair[1]:
                    self.assertEqual((outs[pair], ins[pair]), (None, None))
            self.assertEqual(shape(form), before)
        self.assertGreater(together, 0)

    def test_pairs_that_are_never_together(self):
        # Letters a and c lead from the border, but to other states.
        form = Format.of("abc", (("ab", "x"), ("cb", "x"), ("aab", "x")))
        for pair in plain_pairs(form):
            out, into = plain_links(form)
            self.assertEqual((reach_in(form, pair), reach_out(form, pair)),
                             (plain_reaches(into)[pair], plain_reaches(out)[pair]))

    def test_long(self):
        # Behind b the two kinds of runs go on beside each other; only their ends part them.
        size = 11
        line = Format("ab", size + 1, tuple(sorted([(0, "b", 0, "x"), (0, "a", 1, ""), (size, "b", 0, "y")]
                                                  + [(at, "a", at + 1, "") for at in range(1, size)])))
        self.assertEqual(reach_out(line, ((1, ""), (2, ""))), size - 2)
        self.assertEqual(reach_in(line, ((size - 1, ""), (size, ""))), size - 1)
        self.assertEqual(reach_in(line, ((1, ""), (2, ""))), 1)
        self.assertEqual(reach_in(line, ((1, ""), (size, ""))), 1)

    def test_by_name(self):
        self.assertIsNone(reach_in(form=CODE, pair=(BORDER, BORDER)))
        self.assertIsNone(reach_out(form=CODE, pair=(BORDER, BORDER)))


class Enough(unittest.TestCase):
    def test_examples(self):
        self.assertEqual([corners(CODE), corners(SWAP), is_enough(CODE, 2, 0)], [((0, 3), (1, 1), (3, 0)), (), False])
        self.assertEqual([corners(Format.book("ab", ("a", "ba"))), corners(LETTERS)], [((1, 0),), ((0, 0),)])

    def test_plain_count(self):
        seen = set()
        for form in FORMATS:
            before = shape(form)
            found = corners(form)
            enough = {(a, b): is_enough(form, a, b) for a in range(5) for b in range(5)}
            for (a, b), told in enough.items():
                self.assertIs(told, enough_by_rows(form, a, b))
                self.assertIs(told, any(a >= c and b >= d for c, d in found))
            self.assertEqual(tuple(c for c in found if max(c) < 5), plain_corners(enough, 5))
            seen.add(found)
            self.assertEqual(shape(form), before)
        self.assertIn((), seen)
        self.assertGreater(len(seen), 8)

    def test_greater_numbers(self):
        for form in FORMATS:
            for a, b in corners(form):
                for more in (0, 1, 7, 150):
                    self.assertIs(is_enough(form, a + more, b), True)
                    self.assertIs(is_enough(form, a, b + more), True)
                    self.assertIs(is_enough(form, a + more, b + more), True)

    def test_corners_are_smallest(self):
        for form in FORMATS + books(64, 40):
            found = corners(form)
            self.assertEqual(list(found), sorted(set(found)))
            for a, b in found:
                self.assertIs(is_enough(form, a, b), True)
                self.assertFalse(a > 0 and is_enough(form, a - 1, b))
                self.assertFalse(b > 0 and is_enough(form, a, b - 1))
            size = max([4] + [max(corner) for corner in found])
            for a in range(0, size + 1, 1 + size // 8):
                for b in range(0, size + 1, 1 + size // 8):
                    self.assertIs(is_enough(form, a, b), any(a >= c and b >= d for c, d in found))

    def test_never(self):
        for form in (SWAP, ITEMS, Format.book("ab", ("aa", "b")), Format.of("ab", (("ab", "x"), ("ab", "y")))):
            self.assertEqual(corners(form), ())
            for a, b in ((0, 0), (5, 5), (150, 0), (0, 150), (150, 150)):
                self.assertIs(is_enough(form, a, b), False)

    def test_one_side_alone(self):
        behind = Format.book("ab", ("a", "ab"))
        self.assertEqual(corners(behind), ((0, 1),))
        self.assertEqual(corners(behind.backward()), ((1, 0),))
        # Whatever stands behind, the kind is told by the letters ahead alone.
        self.assertEqual(corners(Format.of("ab", (("a", "x"), ("b", "y")))), ((1, 0),))

    def test_only_the_records_count(self):
        for form in FORMATS:
            for again in written_otherwise(form):
                self.assertEqual(corners(again), corners(form))
                self.assertIs(is_enough(again, 2, 1), is_enough(form, 2, 1))

    def test_backward_with_one_kind(self):
        one_kind = random_formats(65, 60, states=4, arrows=7, kinds=("word",)) + books(66, 40)
        found = {corners(form) for form in one_kind}
        self.assertGreater(len(found), 10)
        for form in one_kind:
            self.assertEqual(corners(form.backward()), tuple(sorted((b, a) for a, b in corners(form))))

    def test_great_formats(self):
        chance = random.Random(67)
        for letters in ("ab", "abcde"):
            words = {"".join(chance.choice(letters) for _ in range(8)) for _ in range(12)}
            kinds = Format.of(letters, tuple((word, kind) for word in words for kind in ("v", "w", "x", "y", "z")))
            self.assertEqual(corners(kinds), ())
            form = Format.of(letters, tuple((word, "vwxyz"[at % 5]) for at, word in enumerate(sorted(words))))
            for a, b in corners(form):
                self.assertIs(is_enough(form, a, b), True)
        arrows = [(source, letter, target, kind) for source in range(12) for letter in "abcde"
                  for target in range(12) for kind in (("x", "y", "z") if target == 0 else ("",))]
        every = Format("abcde", 12, tuple(sorted(arrows)))
        self.assertEqual(corners(every), ())
        self.assertEqual(len(witnesses(every)), 36)
        self.assertEqual({reach_in(every, pair) for pair in witnesses(every)}, {None})

    def test_by_name(self):
        self.assertEqual(corners(form=LETTERS), ((0, 0),))
        self.assertIs(is_enough(form=CODE, a=1, b=1), True)


def books(seed, many):
    """So many formats of books, the same ones at each run."""
    chance = random.Random(seed)
    made = []
    for _ in range(many):
        sizes = [chance.randint(1, 5) for _ in range(chance.randint(1, 5))]
        words = {"".join(chance.choice("ab") for _ in range(size)) for size in sizes}
        made.append(Format.book("ab", tuple(sorted(words))))
    return made
