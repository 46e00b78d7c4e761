"""Papers that show of two numbers that they are enough, or that they are not."""

from amidread.arrows import is_ascending, is_integer
from amidread.errors import NotEnough
from amidread.pairs import leads_of, open_witnesses, reaches_in, reaches_out, standings, witnesses
from amidread.rows import lines_through, row_beyond, text_along, turned_row
from amidread.texts import answers_of, is_text, letters_of


def known_numbers(reaches):
    """The ascending tuple of (pair, reach) for the reaches that are known and are numbers."""
    return tuple(sorted([(pair, number) for pair, number in reaches.known.items() if number is not None]))


def sure_paper(form, a, b):
    """A sure paper for two numbers."""
    ins, outs = reaches_in(form), reaches_out(form)
    if open_witnesses(form, ins, outs, a, b):
        raise NotEnough(a, b)
    # A number is known only where those that it follows from are known, too: they are less.
    return known_numbers(ins), known_numbers(outs)


def is_standing(known, thing):
    """Whether any value is one of the known standings, the keys of a dict."""
    if not isinstance(thing, tuple) or len(thing) != 2:
        return False
    return is_integer(thing[0]) and isinstance(thing[1], str) and thing in known


def is_item(known, thing):
    """Whether any value is (pair, number), for the known standings."""
    if not isinstance(thing, tuple) or len(thing) != 2 or not is_integer(thing[1]) or thing[1] < 0:
        return False
    pair = thing[0]
    if not isinstance(pair, tuple) or len(pair) != 2:
        return False
    return is_standing(known, pair[0]) and is_standing(known, pair[1]) and pair[0] <= pair[1]


def is_side(known, thing):
    """Whether any value is an ascending tuple of items, each pair at most once in it."""
    if not isinstance(thing, tuple) or not all([is_item(known, item) for item in thing]):
        return False
    return is_ascending([item[0] for item in thing])


def falls(reaches, numbers):
    """Whether all pairs one step further, that way, than a pair with a number have smaller numbers."""
    for pair in numbers:
        for _, further in reaches.links(pair):
            if further not in numbers or numbers[further] >= numbers[pair]:
                return False
    return True


def is_below(numbers, pair, limit):
    """Whether a pair has a number, and one below a limit."""
    return pair in numbers and numbers[pair] < limit


def enough_holds(form, a, b, thing):
    """Whether any value is a sure paper for two numbers."""
    known = {standing: True for standing in standings(form)}
    if not isinstance(thing, tuple) or len(thing) != 2 or not all([is_side(known, side) for side in thing]):
        return False
    ins = {pair: number for pair, number in thing[0]}
    outs = {pair: number for pair, number in thing[1]}
    if not all([is_below(ins, pair, a) or is_below(outs, pair, b) for pair in witnesses(form)]):
        return False
    return falls(reaches_in(form), ins) and falls(reaches_out(form), outs)


def unsure(form, a, b):
    """An unsure paper for two numbers, or None."""
    ins, outs = reaches_in(form), reaches_out(form)
    pairs = open_witnesses(form, ins, outs, a, b)
    if not pairs:
        return None
    start, row = turned_row(pairs[0], row_beyond(ins, pairs[0], a))
    row = row + row_beyond(outs, pairs[0], b)
    line, other_line = lines_through(leads_of(form), start, row)
    letters = [letter for letter, _ in row]
    text, place = text_along(form, letters, line)
    other_text, other_place = text_along(form, letters, other_line)
    return text, place + a, other_text, other_place + a


def unsure_holds(form, a, b, thing):
    """Whether any value is an unsure paper for two numbers."""
    if not isinstance(thing, tuple) or len(thing) != 4:
        return False
    text, place, other_text, other_place = thing
    if not is_place(form, text, place) or not is_place(form, other_text, other_place):
        return False
    stretch = stretch_at(text, place, a, b)
    if stretch is None or stretch != stretch_at(other_text, other_place, a, b):
        return False
    return answers_of(text)[place - 1] != answers_of(other_text)[other_place - 1]


def is_place(form, text, place):
    """Whether two values, of any kind, are a text of a format and a place of it."""
    return is_text(form, text) and is_integer(place) and 1 <= place <= len(letters_of(text))


def stretch_at(text, place, a, b):
    """The stretch of a and b letters at a place of a text, or None if there are fewer."""
    word = letters_of(text)
    if place < a or len(word) < place + b:
        return None
    return word[place - a:place], word[place:place + b]
