"""What workers tell of pieces of texts."""

import itertools
import random
import unittest

from amidread.errors import NoReading, NotSure
from amidread.formats import Format
from amidread.pairs import corners, is_enough
from amidread.papers import unsure
from amidread.pieces import told_by, told_in_pieces
from tests.helpers import (CODE, ITEMS, SWAP, error_of, random_format, random_formats, shape, spelt, texts_up_to,
                           words_up_to, written_otherwise)
from tests.test_pairs import FORMATS, LETTERS, books
from tests.test_papers import FAR

TWICE = Format.of("ab", (("ab", "x"), ("ab", "y"), ("b", "z")))
FEW = [CODE, SWAP, ITEMS, LETTERS, TWICE] + random_formats(91, 8, states=3, arrows=5)
ENDS = tuple(itertools.product((False, True), repeat=2))


def answers_by_ways(form, word, begins, ends):
    """For each place of a word the set of its answers, by following all ways; None if there is none."""
    ways = [(state, ()) for state in ([0] if begins else range(form.states))]
    for letter in word:
        ways = sorted({(target, told + (kind,)) for state, told in ways
                       for source, by, target, kind in form.arrows if (source, by) == (state, letter)})
    answers = [told for state, told in ways if state == 0 or not ends]
    return [set(column) for column in zip(*answers)] if answers else None


def told_by_ways(form, ahead, piece, behind, begins, ends):
    """What a worker tells, by following all ways; None if no text has its letters."""
    word = ahead + piece + behind
    answers = answers_by_ways(form, word, begins, ends)
    if word == "":
        return ()
    if answers is None:
        return None
    return tuple(min(told) if len(told) == 1 else None for told in answers)[len(ahead):len(ahead) + len(piece)]


def told_by_texts(form, ahead, piece, behind, begins, ends, length):
    """What a worker tells, by looking for its letters in all texts of at most so many letters."""
    word = ahead + piece + behind
    seen = []
    for text in texts_up_to(form, length):
        letters, answers = spelt(text)
        for start in range(len(letters) - len(word) + 1):
            if (letters[start:start + len(word)] == word and (start == 0 or not begins)
                    and (start + len(word) == len(letters) or not ends)):
                seen.append(answers[start + len(ahead):start + len(ahead) + len(piece)])
    if not seen:
        return None
    return tuple(told[0] if len(set(told)) == 1 else None for told in zip(*seen))


def cuttings(length):
    """All tuples of places at which letters can be cut."""
    places = range(1, length)
    return [cuts for many in range(length) for cuts in itertools.combinations(places, many)] if length > 0 else [()]


def pieces_by_ways(form, a, b, word, cuts):
    """What workers tell, piece for piece."""
    told = ()
    for start, end in zip((0,) + cuts, cuts + (len(word),)):
        first, last = max(0, start - a), min(len(word), end + b)
        told += told_by_ways(form, word[first:start], word[start:end], word[end:last], start <= a,
                             end + b >= len(word))
    return told


class ToldBy(unittest.TestCase):
    def check(self, form, ahead, piece, behind, begins, ends, expected):
        """Checks what one worker tells, or that no text has its letters, for which None is expected."""
        if expected is None:
            error = error_of(told_by, form, ahead, piece, behind, begins=begins, ends=ends)
            self.assertIs(type(error), NoReading)
            self.assertEqual(error.word, ahead + piece + behind)
        else:
            told = told_by(form, ahead, piece, behind, begins=begins, ends=ends)
            self.assertIs(type(told), tuple)
            self.assertEqual(told, expected, (form.text, ahead, piece, behind, begins, ends))

    def test_example(self):
        self.assertEqual(told_by(CODE, "", "ba", "a"), ("word", ""))

    def test_all_short_pieces(self):
        seen = []
        for form in FEW:
            before = shape(form)
            for word in words_up_to(form.letters, 5):
                for start, end in itertools.combinations(range(len(word) + 1), 2):
                    for begins, ends in ENDS:
                        parts = (word[:start], word[start:end], word[end:])
                        expected = told_by_ways(form, *parts, begins, ends)
                        self.check(form, *parts, begins, ends, expected)
                        seen.append(expected)
            self.assertEqual(shape(form), before)
        self.assertGreater(seen.count(None), 1000)
        self.assertGreater(sum(told is not None and None in told for told in seen), 1000)
        self.assertGreater(sum(told is not None and None not in told for told in seen), 1000)

    def test_by_texts(self):
        # From each place of these formats two letters or fewer lead to the end of a record, and from its beginning.
        for form in (CODE, SWAP, LETTERS, TWICE):
            for word in words_up_to("ab", 4):
                for start, end in itertools.combinations(range(len(word) + 1), 2):
                    for begins, ends in ENDS:
                        parts = (word[:start], word[start:end], word[end:])
                        self.check(form, *parts, begins, ends, told_by_texts(form, *parts, begins, ends, 8))

    def test_begins_and_ends(self):
        self.assertEqual(told_by(SWAP, "", "ab", "ab"), (None, None))
        self.assertEqual(told_by(SWAP, "", "ab", "ab", begins=True), ("", "word"))
        self.assertEqual(told_by(SWAP, "", "ab", "ab", ends=True), ("", "word"))
        self.assertEqual(told_by(SWAP, "", "a", "", begins=True), ("",))
        self.assertEqual(told_by(SWAP, "", "a", "", begins=False, ends=True), ("word",))
        self.assertEqual(error_of(told_by, SWAP, "", "a", "", begins=True, ends=True).word, "a")
        # More letters may stand in front, or not: it makes no difference.
        self.assertEqual(told_by(ITEMS, "b", "a", "a"), (None,))
        self.assertEqual(told_by(ITEMS, "b", "a", "a", begins=True), ("",))

    def test_several_kinds(self):
        self.assertEqual(told_by(TWICE, "", "ab", "", begins=True), ("", None))
        self.assertEqual(told_by(TWICE, "", "abb", "", begins=True, ends=True), ("", None, "z"))

    def test_no_reading(self):
        for parts in (("", "bbb", ""), ("b", "b", "b"), ("", "b", "bb"), ("aab", "aabaaa", "aab")):
            error = error_of(told_by, CODE, *parts)
            self.assertIs(type(error), NoReading)
            self.assertEqual(error.word, "".join(parts))
        self.assertEqual(error_of(told_by, CODE, "", "ba", "a", begins=True).word, "baa")
        self.assertEqual(error_of(told_by, CODE, "b", "a", "a", ends=True).word, "baa")

    def test_long(self):
        word = "aababb" * 66
        self.assertEqual(told_by(CODE, word[:150], word[150:250], word[250:]), ("", "", "word") * 33 + ("",))
        self.assertEqual(told_by(SWAP, "ab" * 75, "ab" * 50, "ab" * 75), (None,) * 100)
        self.assertEqual(told_by(SWAP, "ab" * 75, "ab" * 50, "ab" * 75, ends=True), ("", "word") * 50)
        self.assertEqual(told_by(ITEMS, "a" * 150, "a" * 100, "a" * 150, begins=True), ("stop",) * 100)
        self.assertEqual(told_by(ITEMS, "a" * 150, "a" * 100, "a" * 150), (None,) * 100)

    def test_begins_and_ends_by_name_only(self):
        for call in (lambda: told_by(CODE, "", "ba", "a", False), lambda: told_by(CODE, "", "ba", "a", False, False)):
            self.assertIs(type(error_of(call)), TypeError)

    def test_by_name(self):
        self.assertEqual(told_by(form=CODE, ahead="", piece="ba", behind="a", begins=False, ends=False), ("word", ""))
        self.assertEqual(told_by(behind="a", piece="ba", ahead="", form=CODE), ("word", ""))


class InPieces(unittest.TestCase):
    def check(self, form, a, b, word, cuts, expected):
        """Checks what workers tell together; expected has None where one is not sure."""
        if None in expected:
            error = error_of(told_in_pieces, form, a, b, word, cuts)
            self.assertIs(type(error), NotSure)
            self.assertEqual(error.place, expected.index(None) + 1, (form.text, a, b, word, cuts))
        else:
            told = told_in_pieces(form, a, b, word, cuts)
            self.assertIs(type(told), tuple)
            self.assertEqual(told, expected)

    def test_example(self):
        self.assertEqual(told_in_pieces(CODE, 0, 1, "aababb", (1, 2, 3, 4, 5)), ("", "", "word", "", "", "word"))

    def test_all_short_words(self):
        sure = unsure_ones = 0
        for form in FEW:
            before = shape(form)
            words = sorted({spelt(text)[0] for text in texts_up_to(form, 6)})[:40]
            for word in words:
                for cuts in cuttings(len(word)):
                    for a, b in ((0, 0), (0, 1), (1, 0), (2, 1), (1, 2), (7, 7)):
                        expected = pieces_by_ways(form, a, b, word, cuts)
                        self.check(form, a, b, word, cuts, expected)
                        sure += None not in expected
                        unsure_ones += None in expected
            self.assertEqual(shape(form), before)
        self.assertGreater(min(sure, unsure_ones), 1000)

    def test_not_sure(self):
        self.assertEqual(error_of(told_in_pieces, SWAP, 1, 1, "ababab", (1, 2, 3, 4, 5)).place, 3)
        self.assertEqual(error_of(told_in_pieces, SWAP, 0, 0, "abab", (1, 2, 3)).place, 2)
        self.assertEqual(told_in_pieces(SWAP, 0, 0, "ab", (1,)), ("", "word"))
        self.assertEqual(told_in_pieces(SWAP, 2, 2, "abba", (1, 2, 3)), ("", "word", "", "word"))
        # Nothing is unsure of the letters of one text, cut nowhere, but what the format itself leaves open.
        self.assertEqual(error_of(told_in_pieces, TWICE, 5, 5, "bab", ()).place, 3)

    def test_no_reading_is_first(self):
        for form, word in ((CODE, "aabb"), (CODE, "ba"), (SWAP, "aab"), (SWAP, "abababa"), (CODE, "b" * 9)):
            for cuts in ((), (1,), tuple(range(1, len(word)))):
                error = error_of(told_in_pieces, form, 0, 0, word, cuts)
                self.assertIs(type(error), NoReading)
                self.assertEqual(error.word, word)

    def test_the_empty_word(self):
        for form in FEW:
            for a, b in ((0, 0), (3, 2), (150, 150)):
                self.assertEqual(told_in_pieces(form, a, b, "", ()), ())

    def test_cut_nowhere(self):
        for form in FEW:
            for text in texts_up_to(form, 6)[:60]:
                word, answers = spelt(text)
                told = answers_by_ways(form, word, True, True) or []
                expected = tuple(min(few) if len(few) == 1 else None for few in told)
                self.check(form, 0, 0, word, (), expected)
                if None not in expected:
                    self.assertEqual(list(expected), answers)

    def test_enough_letters(self):
        # One letter more ahead of a place than ahead of the piece: the place is behind a letter of the piece.
        for form in FORMATS + books(92, 10):
            for a, b in corners(form):
                words = {tuple(answers): word for word, answers in map(spelt, texts_up_to(form, 8)[-25:])}
                for answers, word in sorted(words.items()):
                    for cuts in (tuple(range(1, len(word))), (), tuple(range(2, len(word), 3))):
                        self.assertEqual(told_in_pieces(form, max(0, a - 1), b, word, cuts), answers)

    def test_too_few_letters(self):
        count = 0
        for form in FORMATS + books(93, 10):
            for a in range(3):
                for b in range(3):
                    if not is_enough(form, a + 1, b):
                        text, place, other_text, other_place = unsure(form, a + 1, b)
                        record = (text + other_text)[0]
                        # With records at its ends nobody is told that it begins or ends.
                        long_text = (record,) * (a + 1) + text + (record,) * (b + 1)
                        word = spelt(long_text)[0]
                        cuts = tuple(range(1, len(word)))
                        error = error_of(told_in_pieces, form, a, b, word, cuts)
                        self.assertIs(type(error), NotSure)
                        self.assertLessEqual(error.place, place + (a + 1) * len(record[0]))
                        count += 1
        self.assertGreater(count, 200)

    def test_long(self):
        chance = random.Random(94)
        text = [chance.choice(("aaaabaa", "aabaaaaa", "aba", "baabb", "bbbab")) for _ in range(72)]
        word, answers = spelt([(part, "word") for part in text])
        for cuts in ((), tuple(range(1, len(word))), tuple(sorted(chance.sample(range(1, len(word)), 40)))):
            for a, b in ((30, 0), (29, 0), (13, 16), (0, 29), (150, 150)):
                self.assertEqual(told_in_pieces(FAR, a, b, word, cuts), tuple(answers))
        error = error_of(told_in_pieces, SWAP, 150, 150, "ab" * 200, tuple(range(1, 400)))
        self.assertIs(type(error), NotSure)
        self.assertEqual(error.place, 152)
        self.assertEqual(told_in_pieces(SWAP, 150, 250, "ab" * 200, (100, 200, 300)), ("", "word") * 200)

    def test_very_many_readings(self):
        many = Format.of("ab", (("a", "x"), ("aa", "x"), ("aaa", "y"), ("b", "x")))
        error = error_of(told_in_pieces, many, 150, 150, "a" * 400, tuple(range(1, 400)))
        self.assertEqual((type(error), error.place), (NotSure, 1))
        self.assertEqual(error_of(told_in_pieces, many, 0, 0, "b" * 399 + "ab", ()), None)
        self.assertEqual(error_of(told_in_pieces, many, 3, 3, "ba" * 199 + "aa", (7, 70)).place, 398)
        arrows = [(source, letter, target, kind) for source in range(12) for letter in "abcde"
                  for target in range(12) for kind in (("x", "y", "z") if target == 0 else ("",))]
        every = Format("abcde", 12, tuple(sorted(arrows)))
        word = "".join(random.Random(95).choice("abcde") for _ in range(400))
        for cuts in ((), tuple(range(1, 400))):
            self.assertEqual(error_of(told_in_pieces, every, 150, 150, word, cuts).place, 1)

    def test_great_formats(self):
        chance = random.Random(96)
        for at in range(6):
            form = random_format(chance, letters="abcde"[:2 + at % 4], states=12, arrows=14 + 4 * at)
            word = max([spelt(text)[0] for text in texts_up_to(form, 5)], key=len)
            word = (word * 400)[:len(word) * (400 // max(1, len(word)))]
            error = error_of(told_in_pieces, form, 150, 150, word, tuple(range(1, len(word), 7)))
            self.assertIn(type(error), (type(None), NotSure))

    def test_only_the_records_count(self):
        for form in FEW:
            for again in written_otherwise(form):
                for word in ("a", "ab", "abab", "bab", "aababb", "abba"):
                    for a, b in ((0, 0), (1, 2)):
                        cuts = tuple(range(1, len(word)))
                        results = [(error_of(told_in_pieces, one, a, b, word, cuts), one) for one in (form, again)]
                        self.assertEqual(repr(results[0][0]), repr(results[1][0]))
                        if results[0][0] is None:
                            self.assertEqual(told_in_pieces(form, a, b, word, cuts),
                                             told_in_pieces(again, a, b, word, cuts))

    def test_by_name(self):
        self.assertEqual(told_in_pieces(form=CODE, a=0, b=1, word="aab", cuts=(1, 2)), ("", "", "word"))
