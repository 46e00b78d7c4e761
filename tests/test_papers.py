"""Sure papers and unsure papers, and what is taken for them."""

import random
import unittest

from amidread.errors import NotEnough
from amidread.formats import Format
from amidread.pairs import corners, is_enough, reach_in, reach_out, witnesses
from amidread.papers import enough_holds, sure_paper, unsure, unsure_holds
from amidread.texts import answers_of, letters_of
from tests.helpers import (CODE, ITEMS, ODD_VALUES, SWAP, error_of, nested, part_at, paths_in, random_formats,
                           records_by_ways, same, shape, spelt, spoilt, texts_up_to, unchanged_by, with_part,
                           written_otherwise)
from tests.test_joining import crowd
from tests.test_pairs import FORMATS, LETTERS, books, plain_pairs, plain_steps

HALVES = Format.book("ab", ("aab", "abb", "aaabb"))
FAR = Format.book("ab", ("aaaabaa", "aabaaaaa", "aba", "baabb", "bbbab"))
MOST = 10 ** 39


def is_plain_sure_paper(form, a, b, thing):
    """Whether any value is a sure paper, by the document's words."""
    pairs = plain_pairs(form)

    def is_item(item):
        return any(same(item, (pair, number)) for pair in pairs for number in numbers_in(item))

    if not (type(thing) is tuple and len(thing) == 2 and type(thing[0]) is type(thing[1]) is tuple):
        return False
    for side in thing:
        if not all(is_item(item) for item in side) or list(side) != sorted(set(side)):
            return False
        if len({item[0] for item in side}) < len(side):
            return False
    ins, outs = dict(thing[0]), dict(thing[1])
    for pair in pairs:
        for _, beyond in plain_steps(form, pair):
            if beyond in ins and not (pair in ins and ins[pair] < ins[beyond]):
                return False
            if pair in outs and not (beyond in outs and outs[beyond] < outs[pair]):
                return False
    return all(ins.get(pair, a) < a or outs.get(pair, b) < b for pair in witnesses(form))


def numbers_in(item):
    """The integers from 0 on that stand in a value as its second part, if it has one."""
    good = type(item) is tuple and len(item) == 2 and type(item[1]) is int and item[1] >= 0
    return [item[1]] if good else []


def is_plain_unsure_paper(form, a, b, thing):
    """Whether any value is an unsure paper, by the document's words; records have at most 12 letters."""
    if type(thing) is not tuple or len(thing) != 4:
        return False
    records = records_by_ways(form.arrows, 12)
    seen = []
    for text, place in (thing[:2], thing[2:]):
        if type(text) is not tuple or not all(any(same(part, record) for record in records) for part in text):
            return False
        word, told = spelt(text)
        if type(place) is not int or not 1 <= place <= len(word) or place - a < 0 or place + b > len(word):
            return False
        seen.append((word[place - a:place], word[place:place + b], told[place - 1]))
    return seen[0][:2] == seen[1][:2] and seen[0][2] != seen[1][2]


def pairs_of_numbers(form):
    """Some numbers, the corners among them."""
    return sorted({(a, b) for a in range(4) for b in range(4)} | set(corners(form)))


class SurePaper(unittest.TestCase):
    def test_accepted(self):
        for form in FORMATS + books(71, 25):
            before = shape(form)
            for a, b in pairs_of_numbers(form):
                if is_enough(form, a, b):
                    paper = sure_paper(form, a, b)
                    for more, further in ((0, 0), (1, 0), (0, 1), (3, 5), (150, 150)):
                        self.assertIs(enough_holds(form, a + more, b + further, paper), True)
            self.assertEqual(shape(form), before)

    def test_not_enough(self):
        count = 0
        for form in FORMATS:
            for a, b in pairs_of_numbers(form) + [(150, 0), (0, 150), (150, 150)]:
                error = error_of(sure_paper, form, a, b)
                if is_enough(form, a, b):
                    self.assertIsNone(error)
                else:
                    self.assertIs(type(error), NotEnough)
                    self.assertEqual((error.ahead, error.behind), (a, b))
                    count += 1
        self.assertGreater(count, 300)

    def test_exactly_for_enough(self):
        # A paper for some numbers is none for numbers that are not enough.
        for form in FORMATS + books(72, 15):
            for a, b in corners(form):
                paper = sure_paper(form, a, b)
                for c in range(a + 2):
                    for d in range(b + 2):
                        if not is_enough(form, c, d):
                            self.assertIs(enough_holds(form, c, d, paper), False)

    def test_plainly(self):
        for form in FORMATS:
            for a, b in corners(form):
                self.assertTrue(is_plain_sure_paper(form, a, b, sure_paper(form, a, b)))

    def test_great_formats(self):
        chance = random.Random(73)
        sure = 0
        for at in range(12):
            letters = ("ab", "abcde")[at % 2]
            words = {"".join(chance.choice(letters) for _ in range(8)) for _ in range(12)}
            form = Format.of(letters, tuple((word, "xyz"[at % 3]) for word in words))
            for a, b in corners(form):
                self.assertIs(enough_holds(form, a, b, sure_paper(form, a, b)), True)
                sure += 1
        self.assertGreater(sure, 10)

    def test_written_otherwise(self):
        for form in (CODE, LETTERS, HALVES):
            for again in written_otherwise(form):
                for a, b in corners(form):
                    self.assertIs(enough_holds(again, a, b, sure_paper(again, a, b)), True)

    def test_by_name(self):
        paper = sure_paper(form=CODE, a=1, b=1)
        self.assertIs(enough_holds(form=CODE, a=1, b=1, thing=paper), True)


class EnoughHolds(unittest.TestCase):
    def all_reaches(self, form, times):
        sides = []
        for reach in (reach_in, reach_out):
            numbers = [(pair, reach(form, pair)) for pair in plain_pairs(form)]
            sides.append(tuple(sorted((pair, number * times) for pair, number in numbers if number is not None)))
        return tuple(sides)

    def test_papers_made_otherwise(self):
        for form in FORMATS:
            for a, b in corners(form):
                self.assertIs(enough_holds(form, a, b, self.all_reaches(form, 1)), True)
                self.assertIs(enough_holds(form, 2 * a, 2 * b, self.all_reaches(form, 2)), True)
                self.assertIs(enough_holds(form, MOST * a, MOST * b, self.all_reaches(form, MOST)), True)

    def test_some_of_the_pairs(self):
        # Each side alone is enough where the other number is 0.
        self.assertEqual(corners(CODE), ((0, 3), (1, 1), (3, 0)))
        ins, outs = self.all_reaches(CODE, 1)
        self.assertIs(enough_holds(CODE, 3, 0, (ins, ())), True)
        self.assertIs(enough_holds(CODE, 0, 3, ((), outs)), True)
        self.assertIs(enough_holds(CODE, 3, 3, ((), outs)), True)
        self.assertIs(enough_holds(CODE, 2, 3, (ins, ())), False)
        self.assertIs(enough_holds(CODE, 3, 3, ((), ())), False)
        self.assertIs(enough_holds(LETTERS, 0, 0, ((), ())), True)
        self.assertIs(enough_holds(SWAP, 150, 150, self.all_reaches(SWAP, 1)), False)

    def test_spoilt(self):
        told = {True: 0, False: 0}
        for form in (CODE, HALVES, Format.book("ab", ("a", "ab")), Format.of("ab", (("a", "x"), ("b", "y"))),
                     Format.of("ab", (("ab", "word"), ("aab", "x")))):
            for a, b in corners(form):
                for paper in (sure_paper(form, a, b), self.all_reaches(form, 1)):
                    for thing in spoilt(paper):
                        expected = is_plain_sure_paper(form, a, b, thing)
                        self.assertIs(enough_holds(form, a, b, thing), expected, thing)
                        told[expected] += 1
        self.assertTrue(told[True] > 10 and told[False] > 1000)

    def spoil(self, paper, a, b, path, part):
        thing = with_part(paper, path, part)
        self.assertFalse(same(thing, paper))
        self.assertIs(enough_holds(CODE, a, b, thing), False, thing)

    def test_spoilt_one_by_one(self):
        ins = self.all_reaches(CODE, 1)[0]
        paper = (ins, ())
        self.assertIs(enough_holds(CODE, 3, 0, paper), True)
        for at, (pair, number) in enumerate(ins):
            one, other = pair
            self.spoil(paper, 3, 0, (0,), ins[:at] + ins[at:at + 1] + ins[at:])
            self.spoil(paper, 3, 0, (0,), ins[:at] + ((pair, number), (pair, number + 1)) + ins[at + 1:])
            for part in ([pair, number], (pair,), (pair, number, 0), (pair, -1), (pair, None), (pair, (number,)),
                         (pair, bool(number)), (pair, str(number)), (None, number), ((one,), number),
                         ((one, other, other), number), ((other, one), number), ([one, other], number),
                         ((list(one), other), number), ((one, (other[0], None)), number), ((one, one), number),
                         ((one, (99, "")), number), (((0, "x"), other), number), (((False, "word"), other), number),
                         (((-1, ""), other), number), ((one, (other[0], "word")), number)):
                if not same(part, (pair, number)):
                    self.spoil(paper, 3, 0, (0, at), part)
        self.spoil(paper, 3, 0, (0,), ins[::-1])
        self.spoil(paper, 3, 0, (0,), list(ins))
        self.spoil(paper, 3, 0, (), list(paper))
        self.spoil(paper, 3, 0, (), paper[::-1])
        self.spoil(paper, 3, 0, (), paper + ((),))
        self.spoil(paper, 3, 0, (), paper[:1])
        self.spoil(paper, 3, 0, (1,), None)

    def test_numbers_that_do_not_fall(self):
        outs = self.all_reaches(CODE, 1)[1]
        self.assertIs(enough_holds(CODE, 0, 150, ((), outs)), True)
        for number in (0, 100):
            level = tuple((pair, number) for pair, _ in outs)
            self.assertIs(enough_holds(CODE, 0, 150, ((), level)), False)
        # One more than all others: only what must be greater than it is wrong then.
        for at, (pair, number) in enumerate(outs):
            thing = ((), outs[:at] + ((pair, 100),) + outs[at + 1:])
            self.assertIs(enough_holds(CODE, 0, 150, thing), is_plain_sure_paper(CODE, 0, 150, thing))

    def test_an_alike_pair(self):
        # A circle has no numbers that fall.
        border = ((0, "word"), (0, "word"))
        self.assertIs(enough_holds(LETTERS, 0, 0, (((border, 0),), ())), False)
        self.assertIs(enough_holds(LETTERS, 0, 0, ((), ((border, 5),))), False)

    def test_any_value(self):
        for thing in ODD_VALUES:
            self.assertIs(enough_holds(CODE, 3, 3, thing), False)
            self.assertIs(enough_holds(CODE, 3, 3, (thing, ())), False)
            self.assertIs(enough_holds(CODE, 3, 3, ((), (thing,))), False)
            self.assertIs(enough_holds(CODE, 3, 3, (((thing, 0),), ())), False)
            self.assertIs(enough_holds(CODE, 3, 3, ((((thing, (0, "word")), 0),), ())), False)
            self.assertTrue(unchanged_by(enough_holds, CODE, 3, 3, (thing, thing)))
        for thing in (nested(30), ((), [0] * 4000), (((0, "word"),) * 4000, ()), {(): ()}, "()"):
            self.assertIs(enough_holds(CODE, 3, 3, thing), False)

    def test_papers_of_another_format(self):
        for form in FORMATS:
            for a, b in corners(form):
                for other in (CODE, HALVES, LETTERS, SWAP):
                    paper = sure_paper(form, a, b)
                    self.assertIs(enough_holds(other, a, b, paper), is_plain_sure_paper(other, a, b, paper))


class Unsure(unittest.TestCase):
    def check(self, form, a, b):
        paper = unsure(form, a, b)
        self.assertIs(paper is None, is_enough(form, a, b))
        if paper is not None:
            self.assertIs(unsure_holds(form, a, b, paper), True)
        return paper

    def test_short(self):
        for form in FORMATS + books(74, 25):
            before = shape(form)
            for a, b in pairs_of_numbers(form):
                self.check(form, a, b)
                if a > 0:
                    self.check(form, a - 1, b)
                if b > 0:
                    self.check(form, a, b - 1)
            self.assertEqual(shape(form), before)

    def test_plainly(self):
        for form in FORMATS:
            for a in range(3):
                for b in range(3):
                    paper = unsure(form, a, b)
                    if paper is not None:
                        self.assertTrue(is_plain_unsure_paper(form, a, b, paper))
                        self.assertEqual(len(paper), 4)

    def test_texts_that_look_alike(self):
        text, place, other_text, other_place = unsure(SWAP, 3, 2)
        word, other_word = letters_of(text), letters_of(other_text)
        self.assertEqual(word[place - 3:place + 2], other_word[other_place - 3:other_place + 2])
        self.assertEqual(len(word[place - 3:place + 2]), 5)
        self.assertNotEqual(answers_of(text)[place - 1], answers_of(other_text)[other_place - 1])

    def test_many_letters_on_one_side(self):
        # Only the next letter tells whether a record ends behind a or b.
        form = Format.book("abc", ("a", "b", "ac", "bc"))
        self.assertEqual([corners(form), corners(form.backward())], [((0, 1),), ((1, 0),)])
        for paper in (self.check(form, 150, 0), self.check(form.backward(), 0, 150)):
            self.assertGreater(len(letters_of(paper[0])), 150)
            self.assertGreater(len(letters_of(paper[2])), 150)
        one_side = [form for form in FORMATS + books(75, 60) if corners(form)]
        counts = [0, 0]
        for form in one_side:
            counts[0] += self.check(form, 150, 0) is not None
            counts[1] += self.check(form, 0, 150) is not None
        self.assertGreater(min(counts), 2)

    def test_many_letters_on_both_sides(self):
        for form in [form for form in FORMATS + [SWAP, ITEMS] if corners(form) == ()]:
            for a, b in ((150, 150), (150, 149), (0, 150), (150, 0)):
                self.assertIsNotNone(self.check(form, a, b))

    def test_corners_that_are_far(self):
        self.assertEqual(corners(FAR), ((0, 29), (4, 27), (6, 22), (11, 19), (14, 16), (17, 15), (18, 12), (21, 8),
                                        (25, 5), (28, 3), (30, 0)))
        for a, b in corners(FAR):
            self.assertIsNone(self.check(FAR, a, b))
            self.assertIs(enough_holds(FAR, a, b, sure_paper(FAR, a, b)), True)
            for c, d in ((a - 1, b), (a, b - 1)):
                if min(c, d) >= 0:
                    self.assertTrue(is_plain_unsure_paper(FAR, c, d, self.check(FAR, c, d)))

    def test_great_formats(self):
        chance = random.Random(76)
        for letters in ("ab", "abcde"):
            words = {"".join(chance.choice(letters) for _ in range(8)) for _ in range(12)}
            form = Format.of(letters, tuple((word, kind) for word in words for kind in ("v", "w", "x", "y", "z")))
            self.check(form, 150, 150)
            self.check(form, 0, 0)
        dense = random_formats(77, 1, letters="abcde", states=12, arrows=300)[0]
        self.check(dense, 150, 150)

    def test_the_arguments_alone_count(self):
        # What was asked before, and of other formats with the same attributes, makes no difference.
        calls = [(unsure, 1, 2), (unsure, 1, 1), (unsure, 2, 0), (sure_paper, 3, 0), (sure_paper, 1, 1), (unsure, 0, 150)]
        first = [call(CODE, a, b) for call, a, b in calls]
        for form in FORMATS:
            unsure(form, 1, 1)
        again = Format.read(CODE.text)
        self.assertTrue(same([call(again, a, b) for call, a, b in calls[::-1]], first[::-1]))
        self.assertTrue(same([call(CODE, a, b) for call, a, b in calls], first))

    def test_steps_that_exchange_both(self):
        # With b state 1 leads to itself, too: only one of the two ways to go on is right for both.
        form = Format("ab", 2, ((0, "b", 1, ""), (1, "a", 0, "x"), (1, "b", 0, "y"), (1, "b", 1, "")))
        for made in [form] + random_formats(78, 80, states=4, arrows=10):
            for a, b in ((2, 0), (0, 2), (3, 3), (40, 40)):
                self.check(made, a, b)

    def test_written_otherwise(self):
        for form in FORMATS[:8]:
            for again in written_otherwise(form):
                for a, b in ((0, 0), (1, 2), (2, 0)):
                    self.check(again, a, b)
                    paper = unsure(form, a, b)
                    if paper is not None:
                        self.assertIs(unsure_holds(again, a, b, paper), True)

    def test_by_name(self):
        paper = unsure(form=CODE, a=1, b=0)
        self.assertIs(unsure_holds(form=CODE, a=1, b=0, thing=paper), True)


class UnsureHolds(unittest.TestCase):
    def test_spoilt(self):
        told = {True: 0, False: 0}
        for form in (CODE, SWAP, HALVES, Format.of("ab", (("ab", "x"), ("ab", "y"), ("b", "x")))):
            for a, b in ((0, 0), (1, 0), (0, 1), (2, 1)):
                paper = unsure(form, a, b)
                for thing in spoilt(paper) if paper is not None else []:
                    expected = is_plain_unsure_paper(form, a, b, thing)
                    self.assertIs(unsure_holds(form, a, b, thing), expected, thing)
                    told[expected] += 1
        self.assertTrue(told[True] > 10 and told[False] > 1000)

    def test_texts_that_fit_and_others(self):
        for form in (CODE, SWAP, ITEMS):
            texts = [text for text in texts_up_to(form, 5) if text]
            for one in texts:
                for other in texts[::3]:
                    for thing in ((one, 1, other, 2), (one, 2, other, 2), (one, 3, other, 1), (one, 4, other, 3)):
                        for a, b in ((0, 0), (1, 0), (1, 1), (0, 2)):
                            self.assertIs(unsure_holds(form, a, b, thing), is_plain_unsure_paper(form, a, b, thing))

    def test_one_text_with_two_places(self):
        text = (("ab", "word"), ("ba", "word"), ("ba", "word"))
        # a|b|b|a|b|a: an a ends a record at 4 and at 6, and none at 1.
        self.assertIs(unsure_holds(SWAP, 1, 1, (text, 4, text, 1)), True)
        self.assertIs(unsure_holds(SWAP, 1, 0, (text, 6, text, 1)), True)
        self.assertIs(unsure_holds(SWAP, 1, 1, (text, 6, text, 1)), False)
        self.assertIs(unsure_holds(SWAP, 0, 0, (text, 4, text, 6)), False)
        self.assertIs(unsure_holds(SWAP, 0, 0, (text, 4, text, 4)), False)

    def test_places(self):
        text, other = (("ab", "word"),) * 2, (("ba", "word"),) * 2
        # abab is read with the other borders within baba.
        self.assertIs(unsure_holds(SWAP, 1, 1, (text, 2, other, 1)), True)
        self.assertIs(unsure_holds(SWAP, 2, 0, (text, 3, other, 2)), True)
        self.assertIs(unsure_holds(SWAP, 1, 1, (text, 2, other, True)), False)
        self.assertIs(unsure_holds(SWAP, 0, 0, (text, True, other, 2)), False)
        self.assertIs(unsure_holds(SWAP, 0, 0, (text, 1, other, 2)), True)
        for place in (0, -1, -2, 5, 6, 99, MOST, -MOST, None, "2", (2,), [2], False):
            self.assertIs(unsure_holds(SWAP, 0, 0, (text, place, other, 1)), False, place)
            self.assertIs(unsure_holds(SWAP, 0, 0, (text, 2, other, place)), False, place)
            self.assertIs(unsure_holds(SWAP, 0, 0, (text, place, other, place)), False, place)
        self.assertIs(unsure_holds(SWAP, 0, 0, ((), 0, (), 0)), False)
        self.assertIs(unsure_holds(SWAP, 0, 0, ((), 1, other, 1)), False)

    def test_too_few_letters(self):
        text, other = (("ab", "word"),) * 2, (("ba", "word"),) * 2
        thing = (text, 3, other, 2)
        self.assertIs(unsure_holds(SWAP, 2, 1, thing), True)
        for a, b in ((3, 1), (2, 2), (3, 0), (0, 2), (150, 0), (0, 150), (4, 4)):
            self.assertIs(unsure_holds(SWAP, a, b, thing), False)
            self.assertIs(unsure_holds(SWAP, a, b, (other, 2, text, 3)), False)

    def test_unlike_letters(self):
        text, other = (("ab", "word"),) * 2, (("ba", "word"),) * 2
        self.assertIs(unsure_holds(SWAP, 1, 0, (text, 2, other, 3)), True)
        self.assertIs(unsure_holds(SWAP, 1, 0, (text, 2, other, 1)), True)
        self.assertIs(unsure_holds(SWAP, 1, 0, (text, 1, other, 1)), False)
        self.assertIs(unsure_holds(SWAP, 0, 1, (text, 2, text, 1)), False)

    def test_other_kinds(self):
        form = Format.of("ab", (("ab", "x"), ("ab", "y")))
        self.assertIs(unsure_holds(form, 2, 0, ((("ab", "x"),), 2, (("ab", "y"),), 2)), True)
        self.assertIs(unsure_holds(form, 2, 0, ((("ab", "x"),), 2, (("ab", "x"),), 2)), False)
        self.assertIs(unsure_holds(form, 2, 0, ((("ab", "x"),), 2, (("ab", "z"),), 2)), False)
        self.assertIs(unsure_holds(form, 1, 0, ((("ab", "x"),), 1, (("ab", "y"),), 1)), False)
        for a, b in ((3, 0), (0, 1), (3, 1), (4, 0), (150, 0)):
            self.assertIs(unsure_holds(form, a, b, ((("ab", "x"),), 2, (("ab", "y"),), 2)), False)

    def test_any_value(self):
        paper = unsure(SWAP, 2, 2)
        for thing in ODD_VALUES:
            self.assertIs(unsure_holds(SWAP, 2, 2, thing), False)
            for path in paths_in(paper):
                if path and not same(thing, part_at(paper, path)):
                    changed = with_part(paper, path, thing)
                    self.assertIs(unsure_holds(SWAP, 2, 2, changed), is_plain_unsure_paper(SWAP, 2, 2, changed))
            self.assertTrue(unchanged_by(unsure_holds, SWAP, 2, 2, (thing, 1, (), thing)))
        for thing in (list(paper), paper[:3], paper + (0,), paper[::-1], (paper,), {}, nested(30)):
            self.assertIs(unsure_holds(SWAP, 2, 2, thing), False)

    def test_long_texts(self):
        text = (("b" + "a" * 398 + "b", "item"),) * 3
        other = (("a", "stop"),) * 400
        self.assertIs(unsure_holds(ITEMS, 150, 149, (text, 250, other, 200)), True)
        self.assertIs(unsure_holds(ITEMS, 249, 149, (text, 250, other, 250)), True)
        self.assertIs(unsure_holds(ITEMS, 249, 149, (text, 650, other, 249)), True)
        self.assertIs(unsure_holds(ITEMS, 150, 150, (text, 250, other, 200)), False)
        self.assertIs(unsure_holds(ITEMS, 250, 0, (text, 250, other, 300)), False)
        self.assertIs(unsure_holds(ITEMS, 249, 149, (text, 250, other, 252)), False)
