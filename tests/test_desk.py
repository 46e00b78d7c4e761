"""The desk: records that are written, readers that come and go, letters that are spoilt."""

import random
import unittest

from amidread.desk import Desk
from amidread.errors import BadRecord, BadWord, NameTaken, NotEnough, UnknownName
from amidread.formats import Format
from amidread.pairs import corners, is_enough
from amidread.readers import Reader
from tests.helpers import (CODE, ITEMS, ODD_VALUES, SWAP, answers_by_rows, error_of, records_by_ways, same, shape,
                           spelt, unchanged_by, written_otherwise)
from tests.test_pairs import FORMATS, LETTERS, books
from tests.test_papers import FAR

A, B = ("aab", "word"), ("abb", "word")
KINDS = Format.of("ab", (("a", "x"), ("b", "y")))
ENTERED = [form for form in FORMATS + books(151, 10) + [KINDS] if corners(form)]


class PlainDesk:
    """A desk that works out everything anew from all that was done, by the document's words."""

    def __init__(self, form, a, b):
        self.a, self.b = a, b
        self.table = {stretch: min(told) for stretch, told in answers_by_rows(form, a, b).items()}
        self.letters = []
        self.starts = {}
        self.returned = {}

    def write(self, records):
        for word, kind in records:
            self.letters.extend(word)

    def come(self, name):
        self.starts[name] = len(self.letters)
        self.returned[name] = []

    def go(self, name):
        del self.starts[name], self.returned[name]

    def told(self, name):
        word = "".join(self.letters)
        found = []
        for place in range(1, len(word) + 1):
            seen = place - self.a >= self.starts[name] and place + self.b <= len(word)
            answer = self.table.get((word[place - self.a:place], word[place:place + self.b])) if seen else None
            if answer:
                found.append((place, answer))
        return tuple(found)

    def news(self, name):
        fresh = tuple(pair for pair in self.told(name) if pair not in self.returned[name])
        self.returned[name].extend(fresh)
        return fresh

    def spoil(self, place, letter):
        self.letters[place - 1] = letter


def what_a_desk_tells(desk, names):
    """All that a desk shows without being changed."""
    return [desk.written] + [(name, desk.told(name)) for name in names if error_of(desk.told, name) is None]


class Made(unittest.TestCase):
    def test_not_enough(self):
        for form in FORMATS + [SWAP, ITEMS]:
            for a, b in [(a, b) for a in range(4) for b in range(4)] + [(150, 150)]:
                error = error_of(Desk, form, a, b)
                if is_enough(form, a, b):
                    self.assertIsNone(error)
                else:
                    self.assertIs(type(error), NotEnough)
                    self.assertEqual((error.ahead, error.behind), (a, b))

    def test_empty(self):
        desk = Desk(CODE, 1, 1)
        self.assertEqual(desk.written, "")
        desk.come("x")
        self.assertEqual((desk.told("x"), desk.news("x")), ((), ()))

    def test_two_desks_of_one_format(self):
        one, other = Desk(CODE, 1, 1), Desk(CODE, 1, 1)
        one.come("x")
        one.write(A, B)
        self.assertEqual((one.written, other.written), ("aababb", ""))
        self.assertIs(type(error_of(other.told, "x")), UnknownName)
        other.come("x")
        other.write(B, A)
        one.spoil(1, "b")
        self.assertEqual((one.written, other.written), ("bababb", "abbaab"))
        self.assertEqual((one.news("x"), other.news("x")), (((1, "word"), (3, "word")), ((3, "word"),)))

    def test_is_equal_to_no_other_value(self):
        for thing in (None, 0, "", (), CODE):
            self.assertFalse(Desk(CODE, 1, 1) == thing)

    def test_by_name(self):
        desk = Desk(form=CODE, a=1, b=1)
        self.assertIsNone(desk.come(name="x"))
        desk.write(A, B)
        self.assertEqual(desk.told(name="x"), ((3, "word"),))
        self.assertEqual(desk.news(name="x"), ((3, "word"),))
        self.assertIsNone(desk.spoil(place=3, letter="a"))
        self.assertIsNone(desk.go(name="x"))
        self.assertEqual(desk.written, "aaaabb")


class Write(unittest.TestCase):
    def test_none_one_many(self):
        desk = Desk(CODE, 1, 1)
        self.assertIsNone(desk.write())
        self.assertEqual(desk.written, "")
        self.assertIsNone(desk.write(A))
        self.assertEqual(desk.written, "aab")
        desk.write(B, A, A)
        self.assertEqual(desk.written, "aababbaabaab")
        desk.write(*(A, B) * 100)
        self.assertEqual(desk.written, "aababbaabaab" + "aababb" * 100)

    def test_all_or_none(self):
        desk = Desk(CODE, 1, 1)
        desk.come("x")
        desk.write(A)
        for records, wrong in (((A, ("ab", "word"), B), 1), ((A, B, ("aab", "x")), 2), ((("b", "word"), 7), 0),
                               ((A, None, ("b", "word")), 1), ((A, ["aab", "word"]), 1), ((("", "word"),), 0)):
            error = error_of(desk.write, *records)
            self.assertIs(type(error), BadRecord)
            self.assertTrue(same(error.record, records[wrong]))
            self.assertEqual((desk.written, desk.told("x")), ("aab", ()))
        desk.write(B)
        self.assertEqual((desk.written, desk.told("x")), ("aababb", ((3, "word"),)))

    def test_any_value(self):
        for form in (CODE, LETTERS, FAR):
            desk = Desk(form, *corners(form)[0])
            for thing in ODD_VALUES:
                error = error_of(desk.write, thing)
                self.assertIs(type(error), BadRecord)
                self.assertTrue(same(error.record, thing))
                self.assertIs(type(error_of(desk.write, ("a", "word"), thing)), BadRecord)
                self.assertTrue(unchanged_by(desk.write, [thing], thing))
            self.assertEqual(desk.written, "")

    def test_behind_spoilt_letters(self):
        desk = Desk(CODE, 1, 1)
        desk.write(A)
        desk.spoil(1, "b")
        desk.write(B)
        self.assertEqual(desk.written, "bababb")

    def test_written_is_not_called(self):
        self.assertIs(type(Desk(CODE, 1, 1).written), str)
        self.assertIsInstance(vars(Desk)["written"], property)


class Names(unittest.TestCase):
    def test_taken(self):
        desk = Desk(CODE, 1, 1)
        for name in ("x", "", "a b", "word", "\n", "~" * 2000):
            self.assertIsNone(desk.come(name))
            error = error_of(desk.come, name)
            self.assertIs(type(error), NameTaken)
            self.assertEqual(error.name, name)

    def test_unknown(self):
        desk = Desk(CODE, 1, 1)
        desk.come("x")
        for name in ("y", "", "X", "xx"):
            for call in (desk.go, desk.told, desk.news):
                error = error_of(call, name)
                self.assertIs(type(error), UnknownName)
                self.assertEqual(error.name, name)

    def test_taken_again_changes_nothing(self):
        desk = Desk(CODE, 1, 1)
        desk.come("x")
        desk.write(A, B, A)
        self.assertEqual(desk.news("x"), ((3, "word"), (6, "word")))
        self.assertIs(type(error_of(desk.come, "x")), NameTaken)
        self.assertEqual(desk.told("x"), ((3, "word"), (6, "word")))
        self.assertEqual(desk.news("x"), ())

    def test_leaves_and_comes_back(self):
        desk = Desk(CODE, 1, 1)
        desk.come("x")
        desk.write(A, B, A)
        self.assertEqual(desk.news("x"), ((3, "word"), (6, "word")))
        self.assertIsNone(desk.go("x"))
        for call in (desk.go, desk.told, desk.news):
            self.assertIs(type(error_of(call, "x")), UnknownName)
        desk.come("x")
        self.assertEqual((desk.told("x"), desk.news("x")), ((), ()))
        desk.write(A, B)
        self.assertEqual(desk.told("x"), ((12, "word"),))
        self.assertEqual(desk.news("x"), ((12, "word"),))
        self.assertEqual(desk.news("x"), ())

    def test_others_stay(self):
        desk = Desk(CODE, 1, 1)
        for name in "xyz":
            desk.come(name)
        desk.write(A, B)
        self.assertEqual(desk.news("x"), ((3, "word"),))
        desk.go("x")
        self.assertEqual((desk.told("y"), desk.news("y"), desk.news("y"), desk.news("z")),
                         (((3, "word"),), ((3, "word"),), (), ((3, "word"),)))


class Told(unittest.TestCase):
    def test_first_and_last_place(self):
        # After c letters the places from c + a on, to the number of letters less b.
        for a, b in ((3, 0), (1, 1), (0, 3), (2, 2), (4, 3), (0, 4), (5, 0)):
            for before in range(4):
                for after in range(6):
                    desk = Desk(CODE, a, b)
                    desk.write(*(A, B, B, A)[:before])
                    desk.come("x")
                    desk.write(*(B, A, A, B, B, A)[:after])
                    borders = range(3, 3 * (before + after) + 1, 3)
                    places = range(max(1, 3 * before + a), 3 * (before + after) - b + 1)
                    self.assertEqual(desk.told("x"), tuple((place, "word") for place in borders if place in places))

    def test_no_letters_ahead(self):
        # The place at which a reader came in has a letter in front of it, and letters behind it.
        desk = Desk(CODE, 0, 3)
        desk.write(A)
        desk.come("x")
        desk.write(B)
        self.assertEqual(desk.told("x"), ((3, "word"),))
        desk = Desk(LETTERS, 0, 0)
        desk.come("x")
        self.assertEqual(desk.told("x"), ())
        desk.write(("a", "word"))
        desk.come("y")
        self.assertEqual((desk.told("x"), desk.told("y")), (((1, "word"),),) * 2)
        desk.write(("b", "word"))
        self.assertEqual((desk.told("x"), desk.told("y")), (((1, "word"), (2, "word")),) * 2)

    def test_kinds(self):
        desk = Desk(KINDS, 1, 0)
        desk.come("x")
        desk.write(("a", "x"), ("b", "y"), ("a", "x"))
        self.assertEqual(desk.told("x"), ((1, "x"), (2, "y"), (3, "x")))
        desk.spoil(2, "a")
        self.assertEqual(desk.told("x"), ((1, "x"), (2, "x"), (3, "x")))

    def test_again_the_same(self):
        desk = Desk(CODE, 1, 1)
        desk.come("x")
        desk.write(A, B, A)
        for _ in range(3):
            self.assertEqual(desk.told("x"), ((3, "word"), (6, "word")))
        self.assertEqual(desk.news("x"), ((3, "word"), (6, "word")))
        self.assertEqual(desk.told("x"), ((3, "word"), (6, "word")))
        self.assertEqual(desk.news("x"), ())

    def test_news(self):
        desk = Desk(CODE, 1, 1)
        desk.come("x")
        desk.write(A)
        self.assertEqual(desk.news("x"), ())
        desk.write(B)
        desk.come("y")
        self.assertEqual(desk.news("x"), ((3, "word"),))
        desk.write(A, B)
        self.assertEqual(desk.news("x"), ((6, "word"), (9, "word")))
        self.assertEqual(desk.news("y"), ((9, "word"),))
        self.assertEqual((desk.news("x"), desk.news("y")), ((), ()))


class Spoil(unittest.TestCase):
    def test_gone_and_back(self):
        desk = Desk(CODE, 1, 1)
        desk.come("x")
        desk.write(A, B, A)
        self.assertEqual(desk.news("x"), ((3, "word"), (6, "word")))
        self.assertIsNone(desk.spoil(4, "b"))
        self.assertEqual((desk.written, desk.told("x"), desk.news("x")), ("aabbbbaab", ((6, "word"),), ()))
        desk.spoil(4, "a")
        self.assertEqual((desk.written, desk.told("x")), ("aababbaab", ((3, "word"), (6, "word"))))
        # It was returned before it was gone.
        self.assertEqual(desk.news("x"), ())

    def test_new_borders(self):
        desk = Desk(CODE, 1, 1)
        desk.come("x")
        desk.write(A, B)
        desk.spoil(1, "b")
        self.assertEqual(desk.told("x"), ((1, "word"), (3, "word")))
        self.assertEqual(desk.news("x"), ((1, "word"), (3, "word")))
        desk.spoil(1, "a")
        self.assertEqual(desk.told("x"), ((3, "word"),))

    def test_other_kinds_are_news(self):
        desk = Desk(KINDS, 1, 0)
        desk.come("x")
        desk.write(("a", "x"))
        self.assertEqual(desk.news("x"), ((1, "x"),))
        desk.spoil(1, "b")
        self.assertEqual(desk.news("x"), ((1, "y"),))
        desk.spoil(1, "a")
        self.assertEqual((desk.told("x"), desk.news("x")), (((1, "x"),), ()))

    def test_the_same_letter(self):
        desk = Desk(CODE, 1, 1)
        desk.come("x")
        desk.write(A, B)
        for place in range(1, 7):
            desk.spoil(place, desk.written[place - 1])
            self.assertEqual((desk.written, desk.told("x")), ("aababb", ((3, "word"),)))

    def test_wrong_letters(self):
        desk = Desk(CODE, 1, 1)
        desk.come("x")
        desk.write(A, B)
        for thing in tuple(thing for thing in ODD_VALUES if not same(thing, "a") and not same(thing, "b")) + ("c", "B"):
            error = error_of(desk.spoil, 3, thing)
            self.assertIs(type(error), BadWord)
            self.assertTrue(same(error.word, thing))
            self.assertEqual((desk.written, desk.told("x")), ("aababb", ((3, "word"),)))

    def test_first_and_last_letter(self):
        desk = Desk(CODE, 1, 1)
        desk.write(A, B)
        desk.spoil(1, "b")
        desk.spoil(6, "a")
        self.assertEqual(desk.written, "bababa")

    def test_stretches_without_the_letter(self):
        chance = random.Random(152)
        for form, a, b in ((CODE, 1, 1), (CODE, 3, 0), (CODE, 0, 3), (CODE, 4, 6), (FAR, 14, 16), (FAR, 0, 29)):
            words = [word for word, kind in sorted(records_by_ways(form.arrows, 8))]
            text = [(chance.choice(words), "word") for _ in range(30)]
            for _ in range(25):
                desk = Desk(form, a, b)
                desk.come("x")
                desk.write(*text)
                before = desk.told("x")
                place = chance.randint(1, len(desk.written))
                desk.spoil(place, "b" if desk.written[place - 1] == "a" else "a")
                after = desk.told("x")

                def far(pairs):
                    return [pair for pair in pairs if not pair[0] - a < place <= pair[0] + b]
                self.assertEqual(far(after), far(before))
                desk.spoil(place, "b" if desk.written[place - 1] == "a" else "a")
                self.assertEqual(desk.told("x"), before)


class Long(unittest.TestCase):
    def test_all_that_is_done(self):
        chance = random.Random(153)
        for form in ENTERED:
            for a, b in sorted({corner for corner in corners(form) if max(corner) < 5}
                               | {(a, b) for a, b in ((1, 1), (2, 3)) if is_enough(form, a, b)}):
                self.check(form, a, b, chance)

    def check(self, form, a, b, chance):
        """Does many things in any order, at a desk and at a plain one."""
        desk, plain = Desk(form, a, b), PlainDesk(form, a, b)
        records = sorted(records_by_ways(form.arrows, 6))
        before = shape(form)
        for _ in range(60):
            name = chance.choice("uvwxyz")
            there = name in plain.starts
            deed = chance.choice(("write", "write", "come", "go", "told", "news", "news", "spoil", "spoil"))
            if deed == "write":
                some = tuple(chance.choice(records) for _ in range(chance.randint(0, 3)))
                desk.write(*some)
                plain.write(some)
            elif deed == "come":
                self.assertIs(type(error_of(desk.come, name)), NameTaken if there else type(None))
                if not there:
                    plain.come(name)
            elif deed == "spoil":
                if plain.letters:
                    place, letter = chance.randint(1, len(plain.letters)), chance.choice(form.letters)
                    desk.spoil(place, letter)
                    plain.spoil(place, letter)
            elif not there:
                self.assertIs(type(error_of(getattr(desk, deed), name)), UnknownName)
            else:
                self.assertEqual(getattr(desk, deed)(name), getattr(plain, deed)(name), (form.text, a, b, deed))
            self.assertEqual(desk.written, "".join(plain.letters))
        for name in plain.starts:
            self.assertEqual(desk.told(name), plain.told(name))
        self.assertEqual(shape(form), before)

    def test_without_spoilt_letters(self):
        # A reader is told exactly the borders, each once.
        chance = random.Random(154)
        for form in ENTERED:
            a, b = corners(form)[0]
            records = sorted(records_by_ways(form.arrows, 6))
            desk = Desk(form, a, b)
            text, starts, news = [], {}, {}
            for turn in range(25):
                if turn % 5 == 0:
                    desk.come(str(turn))
                    starts[str(turn)] = len(spelt(text)[0])
                    news[str(turn)] = []
                text.append(chance.choice(records))
                desk.write(text[-1])
                for name in starts:
                    if chance.random() < 0.5:
                        news[name].extend(desk.news(name))
            word, answers = spelt(text)
            for name, start in starts.items():
                news[name].extend(desk.news(name))
                places = range(max(1, start + a), len(word) - b + 1)
                expected = [(place, answers[place - 1]) for place in places if answers[place - 1] != ""]
                self.assertEqual(news[name], expected)
                self.assertEqual(list(desk.told(name)), expected)

    def test_two_thousand_letters_and_twenty_readers(self):
        chance = random.Random(155)
        for form, a, b in ((CODE, 150, 150), (FAR, 150, 150), (CODE, 1, 1)):
            words = [word for word, kind in sorted(records_by_ways(form.arrows, 8))]
            desk = Desk(form, a, b)
            text = []
            starts = {}
            while sum(len(word) for word, kind in text) < 1990:
                if len(starts) < 20 and len(text) % 3 == 0:
                    starts[str(len(starts))] = len(desk.written)
                    desk.come(str(len(starts) - 1))
                text.append((chance.choice(words), "word"))
                desk.write(text[-1])
                for name in starts:
                    desk.news(name)
            word, answers = spelt(text)
            self.assertEqual(desk.written, word)
            for name, start in starts.items():
                self.assertEqual(desk.told(name), tuple((place, "word") for place in range(start + a, len(word) - b + 1)
                                                        if answers[place - 1]))
                self.assertEqual(desk.news(name), ())
            for _ in range(30):
                desk.spoil(chance.randint(1, len(word)), chance.choice("ab"))
            reader = Reader(form, a, b)
            borders = [pair for pair in reader.told(desk.written) if pair[1] != ""]
            for name, start in starts.items():
                self.assertEqual(desk.told(name), tuple(pair for pair in borders if pair[0] >= start + a))

    def test_no_error_changes_anything(self):
        desk = Desk(CODE, 1, 1)
        desk.come("x")
        desk.write(A, B, A)
        before = what_a_desk_tells(desk, "xy")
        for call, args in ((desk.write, (A, B, 7)), (desk.come, ("x",)), (desk.go, ("y",)), (desk.told, ("y",)),
                           (desk.news, ("y",)), (desk.spoil, (1, "c")), (desk.spoil, (1, ""))):
            self.assertIsNotNone(error_of(call, *args))
            self.assertEqual(what_a_desk_tells(desk, "xy"), before)
        self.assertEqual(desk.news("x"), ((3, "word"), (6, "word")))

    def test_only_the_records_count(self):
        for form in ENTERED[:8]:
            a, b = corners(form)[0]
            records = sorted(records_by_ways(form.arrows, 5))
            desks = [Desk(again, a, b) for again in [form] + written_otherwise(form)]
            for desk in desks:
                desk.come("x")
                desk.write(*records * 2)
                desk.spoil(2 % len(desk.written) + 1, form.letters[-1])
            self.assertEqual(len({(desk.written, desk.told("x")) for desk in desks}), 1)
