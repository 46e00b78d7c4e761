"""Papers that show that no numbers are enough, and the texts that can be made of them."""

from amidread.arrows import is_integer
from amidread.pairs import in_order, leads_beside, reaches_in, reaches_out, standings, witnesses
from amidread.papers import is_standing
from amidread.rows import text_along
from amidread.words import is_word


def never(form):
    """A never paper, or None if the format can be entered anywhere."""
    ins, outs = reaches_in(form), reaches_out(form)
    for pair in witnesses(form):
        if ins.reach(pair) is None and outs.reach(pair) is None:
            return paper_around(endless_row(ins, pair), endless_row(outs, pair))
    return None


def endless_row(reaches, pair):
    """A list of (letter, standing, other standing) in a row, from a pair on, that ends where it has been.

    The pair itself stands at its beginning, without a letter. Here (x, y) is not (y, x): both
    standings of a row are followed, each by its own arrows.
    """
    row = [("", pair[0], pair[1])]
    seen = {pair: True}
    while len(row) == len(seen):
        beside = leads_beside(reaches.letters, reaches.table, row[-1][1], row[-1][2])
        lasting = [step for step in beside if reaches.reach(in_order(step[1], step[2])) is None]
        closing = [step for step in lasting if step[1:] in seen]
        row.append((closing + lasting)[0])
        seen[row[-1][1:]] = True
    return row


def paper_around(row_in, row_out):
    """The never paper of two rows from a pair: one against the arrows, and one along them."""
    row = row_in[:0:-1] + row_out
    letters = [step[0] for step in row_in[:0:-1] + row_out[1:]]
    middle = len(row_in) - 1
    begins = middle - place_before_end(row_in)
    ends = middle + place_before_end(row_out)
    first = tuple([step[1] for step in row])
    second = tuple([step[2] for step in row])
    return "".join(letters), first, second, (begins, middle, ends)


def place_before_end(row):
    """The place at which the last two standings of a row have been before."""
    return [step[1:] for step in row].index(row[-1][1:])


def never_holds(form, thing):
    """Whether any value is a never paper."""
    if not isinstance(thing, tuple) or len(thing) != 4:
        return False
    word, first, second, marks = thing
    if not is_word(form.letters, word) or not are_marks(len(word), marks):
        return False
    if not is_line(form, word, first) or not is_line(form, word, second):
        return False
    begins, middle, ends = marks
    if first[middle] == second[middle] or 0 not in (first[middle][0], second[middle][0]):
        return False
    return is_round(first, begins, ends) and is_round(second, begins, ends)


def are_marks(length, thing):
    """Whether any value is the three marks of a never paper whose word has so many letters."""
    if not isinstance(thing, tuple) or len(thing) != 3 or not all([is_integer(mark) for mark in thing]):
        return False
    return 0 < thing[0] <= thing[1] <= thing[2] < length


def is_line(form, word, thing):
    """Whether any value is a tuple of standings through which the letters of a word lead."""
    known = {standing: True for standing in standings(form)}
    if not isinstance(thing, tuple) or len(thing) != len(word) + 1:
        return False
    if not all([is_standing(known, part) for part in thing]):
        return False
    arrows = {arrow: True for arrow in form.arrows}
    return all([(before[0], letter) + behind in arrows for before, letter, behind in zip(thing, word, thing[1:])])


def is_round(line, begins, ends):
    """Whether a line of standings comes back to its beginning, and from a later place on to its end."""
    return line[0] == line[begins] and line[ends] == line[-1]


def sides(paper):
    """Whether the two lines of a never paper begin in the same state, and whether they end in the same state."""
    _, first, second, _ = paper
    return first[0][0] == second[0][0], first[-1][0] == second[-1][0]


def pumped(form, paper, times):
    """(times, times, unsure paper): texts that go through a never paper, round and round at its ends."""
    word, first, second, marks = paper
    places = [place_within(marks, len(word), marks[1] + away) for away in range(-times, times + 1)]
    letters = [word[at] for at in places[:-1]]
    text, place = text_along(form, letters, [first[at] for at in places])
    other_text, other_place = text_along(form, letters, [second[at] for at in places])
    return times, times, (text, place + times, other_text, other_place + times)


def place_within(marks, length, place):
    """The place below the last one of a never paper at which what stands at any place, also below 0, is repeated."""
    if place < 0:
        return place % marks[0]
    if place >= length:
        return marks[2] + (place - marks[2]) % (length - marks[2])
    return place
