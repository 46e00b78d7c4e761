"""What makes a format, what it tells of itself, and what equals it."""

import random
import re
import unittest

from amidread.errors import BadFormat
from amidread.formats import Format
from tests.helpers import (CODE, ITEM_ARROWS, ITEMS, ODD_VALUES, SWAP, error_of, nested, random_formats,
                           records_by_asking, records_by_ways, same, shape, states_on_ways, unchanged_by,
                           words_up_to)

STOP = (0, "a", 0, "stop")
HUGE = 10 ** 39


def is_number(thing):
    return type(thing) is int


def is_plain_arrow(letters, states, thing):
    """Whether any value is an arrow, asked in other words than the program does."""
    if type(thing) is not tuple or [type(part) for part in thing] != [int, str, int, str]:
        return False
    source, letter, target, kind = thing
    inside = 0 <= source < states and 0 <= target < states
    form = "[a-z]{1,8}" if target == 0 else ""
    return inside and letter in list(letters) and re.fullmatch(form, kind) is not None


def expected_part(letters, states, arrows):
    """The wrong part of three values, in a list, or no part."""
    good = type(letters) is str and re.fullmatch("[a-z]{2,5}", letters)
    if not good or sorted(set(letters)) != list(letters):
        return ["letters"]
    if not is_number(states) or states < 1:
        return ["states"]
    if type(arrows) is not tuple:
        return ["arrows"]
    for arrow in arrows:
        if not is_plain_arrow(letters, states, arrow):
            return [arrow]
    if sorted(set(arrows)) != list(arrows):
        return ["order"]
    useful = states_on_ways(min(states, 100), arrows)
    return [state for state in range(min(states, 100)) if state not in useful][:1]


class Parts(unittest.TestCase):
    def refused(self, letters, states, arrows, part):
        error = error_of(Format, letters, states, arrows)
        self.assertIs(type(error), BadFormat, (letters, states, arrows))
        self.assertTrue(same(error.part, part), (error.part, part))

    def test_attributes(self):
        self.assertEqual((ITEMS.letters, ITEMS.states), ("ab", 2))
        self.assertIs(ITEMS.arrows, ITEM_ARROWS)
        self.assertEqual(shape(Format(letters="ab", states=1, arrows=(STOP,))), ("ab", 1, (STOP,)))

    def test_letters(self):
        for letters in ODD_VALUES:
            if not isinstance(letters, str) or letters not in ("ab", "abc"):
                self.refused(letters, 1, (STOP,), "letters")
        for letters in ("", "a", "ba", "aab", "abcdef", "aB", "a b"):
            self.refused(letters, None, None, "letters")

    def test_states(self):
        for states in ODD_VALUES:
            if not is_number(states) or states < 1:
                self.refused("ab", states, (STOP,), "states")
                self.refused("ab", states, None, "states")

    def test_arrows(self):
        for arrows in ODD_VALUES:
            if not isinstance(arrows, tuple):
                self.refused("ab", 2, arrows, "arrows")
        self.refused("ab", 1, [STOP], "arrows")

    def test_items(self):
        for item in ODD_VALUES:
            if not same(item, (0, "a", 0, "x")):
                self.refused("ab", 2, (item,), item)
                self.refused("ab", 2, (STOP, item, None), item)
                self.refused("ab", 2, ((0, "b", 0, "x"), STOP, item), item)

    def test_parts_of_items(self):
        wrong = (
            (True, "a", 0, "x"), (False, "a", 0, "x"), (0, "a", False, "x"), (0, "a", True, ""),
            [0, "a", 0, "x"], (0, ["a"], 0, "x"), (0, ("a",), 0, "x"), (0, "a", 0, ["x"]), (0, "a", (0,), "x"),
            (0, "", 0, "x"), (0, "ab", 0, "x"), (0, "c", 0, "x"), (0, "A", 0, "x"), (0, 0, 0, "x"),
            (-1, "a", 0, "x"), (2, "a", 0, "x"), (0, "a", 2, ""), (0, "a", -1, ""), (HUGE, "a", 0, "x"),
            (0, "a", HUGE, ""), ("0", "a", 0, "x"), (None, "a", 0, "x"), (0, "a", 0, ""), (0, "a", 1, "x"),
            (0, "a", 1, None), (0, "a", 1, ()), (0, "a", 0, None), (0, "a", 0, "x" * 9), (0, "a", 0, "X"),
            (0, "a", 0, "x y"), (0, "a", 0, "x1"), (0, "a", 0, "x\n"), (0, "a", 0), (0, "a", 1),
            (0, "a", 0, "x", "x"), ((0, "a", 0, "x"),), {0: 0, 1: "a", 2: 0, 3: "x"}, nested(30),
        )
        for item in wrong:
            self.refused("ab", 2, (item,), item)
            self.refused("ab", 2, (STOP, item, item + item if type(item) is tuple else 0), item)

    def test_longest_kind(self):
        self.assertEqual(Format("ab", 1, ((0, "a", 0, "abcdefgz"),)).kinds, ("abcdefgz",))

    def test_order(self):
        self.refused("ab", 1, (STOP, STOP), "order")
        self.refused("ab", 1, ((0, "b", 0, "x"), (0, "a", 0, "x")), "order")
        self.refused("ab", 1, ((0, "a", 0, "y"), (0, "a", 0, "x")), "order")
        self.refused("ab", 3, ITEM_ARROWS[::-1], "order")
        self.refused("ab", HUGE, (ITEM_ARROWS[0], ITEM_ARROWS[2], ITEM_ARROWS[1]), "order")

    def test_idle_states(self):
        self.refused("ab", 1, (), 0)
        self.refused("ab", HUGE, (), 0)
        self.refused("ab", 2, ((0, "a", 1, ""),), 0)
        self.refused("ab", 2, ((1, "a", 0, "x"),), 0)
        self.refused("ab", 2, ((0, "a", 1, ""), (1, "a", 1, "")), 0)
        self.refused("ab", 3, ((0, "a", 1, ""), (1, "a", 1, ""), (2, "a", 0, "x")), 0)
        self.refused("ab", 2, (STOP,), 1)
        self.refused("ab", HUGE, (STOP,), 1)
        self.refused("ab", 2, (STOP, (0, "b", 1, "")), 1)
        self.refused("ab", 2, (STOP, (1, "b", 0, "x")), 1)
        self.refused("ab", 2, (STOP, (1, "b", 1, "")), 1)
        self.refused("ab", 3, (STOP, (1, "b", 2, ""), (2, "b", 0, "x")), 1)
        self.refused("ab", 4, (STOP, (0, "a", 1, ""), (1, "a", 0, "x"), (2, "b", 3, ""), (3, "b", 2, "")), 2)
        self.refused("ab", 3, ITEM_ARROWS, 2)

    def test_great_numbers(self):
        last = HUGE - 1
        arrows = ((0, "a", last, ""), (last, "a", 0, "x"))
        self.refused("ab", HUGE, arrows, 1)
        self.refused("ab", last, arrows, arrows[0])
        self.refused("ab", HUGE, (STOP, (1, "a", HUGE, "")), (1, "a", HUGE, ""))

    def test_random_parts(self):
        chance = random.Random(1)
        pool = (0, 1, 2, 3, True, "a", "b", "c", "", "x", "word", None, [0], (0,), 10 ** 20)
        for form in random_formats(2, 400):
            arrows = [list(arrow) for arrow in form.arrows]
            for _ in range(chance.randrange(3)):
                arrow = chance.choice(arrows)
                if arrow:
                    arrow[chance.randrange(len(arrow))] = chance.choice(pool)
            arrows = [tuple(arrow) if chance.random() < 0.97 else arrow for arrow in arrows]
            if chance.random() < 0.3:
                arrows.insert(chance.randrange(len(arrows)), chance.choice(arrows + [None]))
            elif chance.random() < 0.3:
                del arrows[chance.randrange(len(arrows))]
            parts = ("ab", form.states + chance.choice((0, 0, 0, 1, -1)), tuple(arrows))
            error = error_of(Format, *parts)
            found = [] if error is None else [error.part]
            self.assertTrue(same(found, expected_part(*parts)), parts)

    def test_arguments_stay(self):
        for thing in ODD_VALUES:
            self.assertTrue(unchanged_by(Format, thing, 1, (STOP,)))
            self.assertTrue(unchanged_by(Format, "ab", thing, (STOP,)))
            self.assertTrue(unchanged_by(Format, "ab", 2, thing))
            self.assertTrue(unchanged_by(Format, "ab", 2, (STOP, thing)))


class Records(unittest.TestCase):
    def test_examples(self):
        self.assertEqual([ITEMS.kinds, ITEMS.kinds_of("bab"), ("bb", "item") in ITEMS,
                          ("bb", "stop") in ITEMS, CODE == SWAP],
                         [("item", "stop"), ("item",), True, False, False])

    def test_kinds(self):
        self.assertEqual(CODE.kinds, ("word",))
        many = tuple((0, "a", 0, "k" * size) for size in range(1, 9))
        self.assertEqual(Format("ab", 1, many).kinds, tuple("k" * size for size in range(1, 9)))

    def test_kinds_of(self):
        self.assertEqual(ITEMS.kinds_of(""), ())
        self.assertEqual([ITEMS.kinds_of(word) for word in ("a", "b", "bb", "aa", "bba", "baab")],
                         [("stop",), (), ("item",), (), (), ("item",)])
        self.assertEqual(ITEMS.kinds_of(word="b" + "a" * 398 + "b"), ("item",))
        self.assertEqual(ITEMS.kinds_of("b" + "a" * 399), ())
        twice = Format("ab", 2, ((0, "a", 1, ""), (0, "b", 0, "z"), (1, "b", 0, "y"), (1, "b", 0, "z"), (1, "b", 1, "")))
        self.assertEqual([twice.kinds_of("ab"), twice.kinds_of("b")], [("y", "z"), ("z",)])

    def test_no_way_over_the_border(self):
        self.assertEqual(ITEMS.kinds_of("aa"), ())
        self.assertEqual(ITEMS.kinds_of("abb"), ())
        self.assertEqual(SWAP.kinds_of("abba"), ())

    def test_all_short_records(self):
        for form in random_formats(3, 60) + random_formats(4, 30, letters="xyz", states=5, arrows=12):
            expected = records_by_ways(form.arrows, 6)
            self.assertEqual(records_by_asking(form, 6), expected)
            for word in words_up_to(form.letters, 3):
                for kind in ("x", "y", "z"):
                    self.assertIs((word, kind) in form, (word, kind) in expected)

    def test_many_ways(self):
        arrows = [(0, "a", state, "") for state in range(1, 17)]
        arrows += [(one, "a", other, "") for one in range(1, 17) for other in range(1, 17)]
        form = Format("ab", 17, tuple(sorted(arrows + [(16, "b", 0, "x")])))
        self.assertEqual(form.kinds_of("a" * 399 + "b"), ("x",))
        self.assertEqual(form.kinds_of("b"), ())
        self.assertIn(("a" * 1999 + "b", "x"), form)

    def test_in_for_any_value(self):
        for thing in ODD_VALUES:
            self.assertNotIn(thing, CODE)
            self.assertNotIn(("bb", thing), ITEMS)
            self.assertNotIn((thing, "item"), ITEMS)
            self.assertTrue(unchanged_by(ITEMS.__contains__, thing))
        for thing in (["bb", "item"], ("bb", "item", "item"), ("bb",), (("b", "b"), "item"), ("bb", ""),
                      (["b", "b"], "item"), ("bb", ["item"]), ("item", "bb"), ("b", ""), ("", "")):
            self.assertNotIn(thing, ITEMS)


class Equality(unittest.TestCase):
    def test_equal(self):
        again = Format("ab", 2, tuple(list(ITEM_ARROWS)))
        self.assertTrue(ITEMS == again)
        self.assertFalse(ITEMS != again)
        self.assertIs(ITEMS == again, True)

    def test_unlike_attributes(self):
        for other in (CODE, Format("abc", 2, ITEM_ARROWS), Format("ab", 1, ITEM_ARROWS[:1]),
                      Format("ab", 2, ITEM_ARROWS[1:])):
            self.assertIs(ITEMS == other, False)
            self.assertIs(ITEMS != other, True)

    def test_same_records(self):
        long = Format("ab", 3, ((0, "a", 1, ""), (0, "a", 2, ""), (1, "a", 0, "x"), (2, "a", 0, "x")))
        short = Format("ab", 2, ((0, "a", 1, ""), (1, "a", 0, "x")))
        self.assertEqual(records_by_asking(long, 3), records_by_asking(short, 3))
        self.assertTrue(long != short)

    def test_any_value(self):
        for thing in ODD_VALUES:
            self.assertIs(ITEMS == thing, thing is ITEMS)
            self.assertIs(thing != ITEMS, thing is not ITEMS)
        self.assertIs(ITEMS == shape(ITEMS), False)
        self.assertIs(ITEMS == ITEMS.text, False)

    def test_no_iteration(self):
        with self.assertRaises(TypeError):
            iter(ITEMS)
