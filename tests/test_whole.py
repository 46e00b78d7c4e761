"""The sentences of the guarantee, each across the modules, on formats that are drawn or made by hand."""

import itertools
import random
import unittest

from amidread.changes import fewest_out, least_marker, out_holds
from amidread.commafree import comma_free_book, is_comma_free
from amidread.desk import Desk
from amidread.errors import NoBook, NotEnough, NotSure
from amidread.formats import Format, parting
from amidread.never import never, never_holds, pumped, sides
from amidread.pairs import corners, is_enough
from amidread.papers import enough_holds, sure_paper, unsure, unsure_holds
from amidread.pieces import told_in_pieces
from amidread.readers import Reader, caught
from amidread.rings import barred_at, book_with, letter_rings
from amidread.stretches import answers, stretches
from amidread.texts import answers_of, is_text, letters_of, readings
from amidread.twoformats import common, least_telling
from tests.helpers import (CODE, ITEMS, ODD_VALUES, SWAP, error_of, first_of, random_formats, same, spelt,
                           texts_up_to, unchanged_by, words_up_to, written_otherwise)
from tests.test_pairs import books

HAND = [CODE, SWAP, ITEMS, Format.book("ab", ("a", "ba")), Format.book("ab", ("a", "b")),
        Format.of("ab", (("a", "x"), ("b", "y"))), Format.of("abc", (("ab", "x"), ("ab", "y"), ("c", "z")))]
FORMATS = (HAND + random_formats(161, 40, states=4, arrows=6) + random_formats(162, 25, states=6, arrows=9)
           + random_formats(163, 15, letters="abc", states=5, arrows=8) + books(164, 40))
NUMBERS = [(a, b) for a in range(4) for b in range(4)] + [(9, 0), (0, 9), (30, 30)]
ENTERED = [form for form in FORMATS if corners(form)]


def numbers_for(form):
    """Some numbers, the corners and what is just below them among them."""
    near = {(a - 1, b) for a, b in corners(form) if a > 0} | {(a, b - 1) for a, b in corners(form) if b > 0}
    return sorted(set(NUMBERS) | set(corners(form)) | near)


def small_numbers(form, most):
    """The numbers up to so many that are enough."""
    return [(a, b) for a in range(most + 1) for b in range(most + 1) if is_enough(form, a, b)]


class Enough(unittest.TestCase):
    def test_corners_and_papers(self):
        for form in FORMATS:
            found = corners(form)
            for a, b in numbers_for(form):
                enough = any(a >= c and b >= d for c, d in found)
                self.assertIs(is_enough(form, a, b), enough)
                if enough:
                    self.assertIs(enough_holds(form, a, b, sure_paper(form, a, b)), True)
                    self.assertIsNone(unsure(form, a, b))
                else:
                    self.assertEqual(vars(error_of(sure_paper, form, a, b)), {"ahead": a, "behind": b})
                    self.assertIs(unsure_holds(form, a, b, unsure(form, a, b)), True)

    def test_no_paper_for_both(self):
        # No sure paper of some numbers is accepted for numbers with an unsure one.
        for form in ENTERED:
            papers = [sure_paper(form, a, b) for a, b in corners(form)]
            for a, b in numbers_for(form):
                if unsure(form, a, b) is not None:
                    self.assertEqual([enough_holds(form, a, b, paper) for paper in papers], [False] * len(papers))

    def test_never(self):
        for form in FORMATS:
            paper = never(form)
            self.assertIs(paper is not None, corners(form) == ())
            if paper is not None:
                self.assertIs(never_holds(form, paper), True)
                for times in (0, 1, 2, 5, 17, 40):
                    a, b, texts = pumped(form, paper, times)
                    self.assertGreaterEqual(min(a, b), times)
                    self.assertIs(unsure_holds(form, a, b, texts), True)
                    self.assertIs(is_enough(form, a, b), False)

    def test_two_readings_on_both_sides(self):
        # A never paper that is alike on both sides gives one text that can be read in two ways.
        count = 0
        for form in FORMATS:
            paper = never(form)
            if paper is not None and sides(paper) == (True, True):
                text, place, other_text, other_place = pumped(form, paper, len(paper[0]))[2]
                word = letters_of(text)
                if word == letters_of(other_text):
                    self.assertGreater(len(first_of(readings(form, word), 2)), 1)
                    count += 1
        self.assertGreater(count, 5)

    def test_answers(self):
        # Numbers are enough exactly if no stretch that occurs has two answers.
        for form in FORMATS:
            for a in range(4):
                for b in range(4):
                    several = any(len(answers(form, *stretch)) > 1 for stretch in stretches(form, a, b))
                    self.assertIs(is_enough(form, a, b), not several)


class Records(unittest.TestCase):
    def test_only_the_records_count(self):
        for form in FORMATS:
            for again in written_otherwise(form):
                self.assertIsNone(parting(form, again))
                self.assertEqual(corners(again), corners(form))
                self.assertIs(never(again) is None, never(form) is None)
                for a, b in corners(form):
                    self.assertIs(enough_holds(again, a, b, sure_paper(again, a, b)), True)
                for a, b in ((0, 0), (1, 1), (2, 0)):
                    texts = unsure(again, a, b)
                    self.assertTrue(texts is None or unsure_holds(form, a, b, texts))

    def test_texts_of_two_ways_of_writing(self):
        for form in ENTERED:
            a, b = corners(form)[0]
            for again in written_otherwise(form):
                for text in texts_up_to(form, 5)[-5:]:
                    self.assertIs(is_text(again, text), True)
                    word = letters_of(text)
                    self.assertEqual(Reader(again, a, b).told(word), Reader(form, a, b).told(word))
                self.assertEqual(least_telling(again, CODE) if form.letters == "ab" else None,
                                 least_telling(form, CODE) if form.letters == "ab" else None)


class Readers(unittest.TestCase):
    def test_right_everywhere(self):
        for form in ENTERED:
            for a, b in corners(form):
                reader = Reader(form, a, b)
                for text in texts_up_to(form, 7)[-40:]:
                    word, told = letters_of(text), answers_of(text)
                    for place in range(max(1, a), len(word) - b + 1):
                        self.assertEqual(reader(word[place - a:place], word[place:place + b]), told[place - 1])

    def test_caught(self):
        chance = random.Random(165)
        for form in FORMATS:
            for a, b in ((0, 0), (1, 1), (2, 1), (0, 3), (3, 0)):
                known = {stretch: answers(form, *stretch) for stretch in stretches(form, a, b)}

                def guess(ahead, behind):
                    return known[ahead, behind][0]
                found = caught(form, a, b, guess)
                self.assertIs(found is None, is_enough(form, a, b))
                wrong = chance.choice(sorted(known))
                others = {**known, wrong: ("nothing",)}

                def wrong_guess(ahead, behind):
                    return others[ahead, behind][0]
                for reader, (text, place) in [(guess, found)] * (found is not None) + [
                        (wrong_guess, caught(form, a, b, wrong_guess))]:
                    self.assertIs(is_text(form, text), True)
                    word = letters_of(text)
                    self.assertTrue(max(1, a) <= place <= len(word) - b)
                    told = reader(word[place - a:place], word[place:place + b])
                    self.assertNotEqual(told, answers_of(text)[place - 1])

    def test_no_reader_below(self):
        for form in FORMATS:
            for a, b in numbers_for(form):
                if not is_enough(form, a, b):
                    self.assertIs(type(error_of(Reader, form, a, b)), NotEnough)
                    self.assertIs(type(error_of(Desk, form, a, b)), NotEnough)


class Workers(unittest.TestCase):
    def test_sure_of_every_place(self):
        for form in ENTERED:
            for a, b in sorted(set(small_numbers(form, 3)) | set(corners(form))):
                if a > 0:
                    for text in texts_up_to(form, 6)[-12:]:
                        word, told = letters_of(text), answers_of(text)
                        for cuts in (tuple(range(1, len(word))), tuple(range(1, len(word), 2)), ()):
                            self.assertEqual(told_in_pieces(form, a - 1, b, word, cuts), told)

    def test_never_against_one_another(self):
        # What workers tell of a text they are sure of is right, however few letters they see.
        for form in FORMATS:
            for text in texts_up_to(form, 6)[-12:]:
                word, told = letters_of(text), answers_of(text)
                for a, b in ((0, 0), (1, 0), (0, 1), (2, 2)):
                    for cuts in (tuple(range(1, len(word))), (), tuple(range(2, len(word), 2))):
                        error = error_of(told_in_pieces, form, a, b, word, cuts)
                        if error is None:
                            self.assertEqual(told_in_pieces(form, a, b, word, cuts), told)
                        else:
                            self.assertIs(type(error), NotSure)

    def test_not_sure_below(self):
        count = 0
        for form in FORMATS:
            for a, b in ((0, 0), (0, 1), (1, 0), (1, 1), (3, 2)):
                if not is_enough(form, a + 1, b):
                    text, place, other_text, other_place = unsure(form, a + 1, b)
                    record = (text + other_text)[:1]
                    longer = record * (a + 1) + text + record * (b + 1)
                    word = letters_of(longer)
                    error = error_of(told_in_pieces, form, a, b, word, tuple(range(1, len(word))))
                    self.assertIs(type(error), NotSure)
                    count += 1
        self.assertGreater(count, 200)

    def test_at_a_desk(self):
        # A desk tells what workers tell who see as much, where it tells anything.
        for form in ENTERED:
            a, b = corners(form)[-1]
            text = max(texts_up_to(form, 7), key=len)
            desk = Desk(form, a, b)
            desk.come("x")
            desk.write(*text)
            word, told = letters_of(text), answers_of(text)
            self.assertEqual(desk.written, word)
            if a > 0:
                told = told_in_pieces(form, a - 1, b, word, tuple(range(1, len(word))))
            places = range(max(1, a), len(word) - b + 1)
            self.assertEqual(desk.news("x"), tuple((place, told[place - 1]) for place in places if told[place - 1]))


class Books(unittest.TestCase):
    def test_book_or_none(self):
        made = 0
        for lengths in itertools.product(range(3), range(3), range(4), range(3)):
            error = error_of(book_with, "ab", lengths)
            if error is None:
                words = book_with("ab", lengths)
                self.assertEqual([sum(len(word) == size for word in words) for size in (1, 2, 3, 4)], list(lengths))
                self.assertEqual(fewest_out("ab", words), ((), ()))
                self.assertEqual(least_marker("ab", words), "")
                if words:
                    self.assertNotEqual(corners(Format.book("ab", words)), ())
                made += 1
            else:
                self.assertIs(type(error), NoBook)
                self.assertEqual(error.length, barred_at(2, lengths))
        self.assertGreater(made, 15)

    def test_no_book_of_any_words(self):
        # All books of at most three words of at most three letters.
        words = words_up_to("ab", 3)[1:]
        free = {}
        for many in (1, 2, 3):
            for book in itertools.combinations(words, many):
                lengths = tuple(sum(len(word) == size for word in book) for size in (1, 2, 3))
                free[lengths] = free.get(lengths, False) or corners(Format.book("ab", book)) != ()
        for lengths, possible in free.items():
            self.assertIs(error_of(book_with, "ab", lengths) is None, possible)

    def test_comma_free_books(self):
        for letters, length in (("ab", 1), ("ab", 3), ("ab", 5), ("abc", 1), ("abc", 3)):
            words = comma_free_book(letters, length)
            self.assertIs(is_comma_free(words), True)
            form = Format.book(letters, words)
            self.assertNotEqual(corners(form), ())
            # A word is seen where it is, and nowhere else.
            for text in texts_up_to(form, 3 * length)[-20:]:
                word, told = spelt(text)
                for at in range(len(word) - length + 1):
                    if word[at:at + length] in words:
                        self.assertEqual((told[at - 1] if at > 0 else "word", told[at + length - 1]), ("word", "word"))
            self.assertEqual(error_of(book_with, letters, (0,) * (length - 1) + (len(words),)), None)
            self.assertEqual(len(words), letter_rings(len(letters), length))

    def test_what_is_left_and_marked(self):
        for form in books(166, 60):
            words = tuple(word for word in words_up_to("ab", 5) if form.kinds_of(word))
            out, parts = fewest_out("ab", words)
            self.assertIs(out_holds("ab", words, (out, parts)), True)
            self.assertIs(out == (), corners(form) != ())
            left = tuple(word for word in words if word not in out)
            self.assertTrue(left == () or corners(Format.book("ab", left)) != ())
            for few, paper in parts:
                self.assertIs(never_holds(Format.book("ab", few), paper), True)
            short = tuple(word for word in words if len(word) < 4)[:4]
            if short:
                marker = least_marker("ab", short)
                self.assertNotEqual(corners(Format.book("ab", tuple(marker + word for word in short))), ())


class TwoFormats(unittest.TestCase):
    def test_told_apart(self):
        chance = random.Random(167)
        forms = [form for form in FORMATS if form.letters == "ab"]
        for _ in range(150):
            form, other = chance.choice(forms), chance.choice(forms)
            number = least_telling(form, other)
            for n in range(6):
                both = ({ahead for ahead, _ in stretches(form, n, 0)} & {ahead for ahead, _ in stretches(other, n, 0)})
                self.assertIs(both == set(), number is not None and n >= number)
                self.assertEqual(common(form, other, n), min(both, default=None))


class AnyValues(unittest.TestCase):
    def test_no_argument_changes(self):
        papers = ODD_VALUES + ([["ab", [0], [0], [1, 1, 1]]], [("ab", "ba"), [(["ab"], [])]])
        for thing in papers:
            for call, args in ((never_holds, (SWAP, thing)), (out_holds, ("ab", ("ab", "ba"), thing)),
                               (enough_holds, (CODE, 1, 1, thing)), (unsure_holds, (SWAP, 1, 1, thing)),
                               (is_text, (CODE, thing))):
                self.assertTrue(unchanged_by(call, *args))
                self.assertIs(call(*args), same(thing, ()) and call == is_text)

    def test_results_are_plain(self):
        # Strings, integers, bools, None and tuples alone.
        def is_plain(thing):
            if type(thing) is tuple:
                return all(map(is_plain, thing))
            return thing is None or type(thing) in (str, int, bool)
        desk = Desk(CODE, 1, 1)
        desk.come("x")
        desk.write(("aab", "word"), ("abb", "word"))
        reader = Reader(CODE, 1, 1)
        for thing in (corners(CODE), sure_paper(CODE, 1, 1), unsure(SWAP, 3, 3), never(SWAP), sides(never(SWAP)),
                      pumped(SWAP, never(SWAP), 3), reader("a", "b"), reader.told("aabb"),
                      caught(CODE, 1, 1, lambda ahead, behind: 7), told_in_pieces(CODE, 0, 1, "aab", (1,)),
                      book_with("ab", (0, 1, 1)), comma_free_book("ab", 5), fewest_out("ab", ("ab", "ba", "aa")),
                      least_marker("ab", ("a", "aa")), common(CODE, SWAP, 4), least_telling(CODE, SWAP),
                      desk.told("x"), desk.news("x"), desk.written, letter_rings(2, 5), barred_at(2, (0, 2))):
            self.assertTrue(is_plain(thing), thing)
