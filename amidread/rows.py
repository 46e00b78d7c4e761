"""Rows of steps from pair to pair, and the texts that go through them."""

from amidread.pairs import leads_of, standings
from amidread.texts import text_with
from amidread.ways import ways_of


def row_beyond(reaches, pair, length):
    """A list of so many (letter, pair) in a row, from a pair on, whose reach that way is great enough."""
    row = []
    for left in range(length - 1, -1, -1):
        lasting = [step for step in reaches.links(pair) if reaches.lasts(step[1], left)]
        row.append(lasting[0])
        pair = lasting[0][1]
    return row


def turned_row(pair, row):
    """(last pair, steps): the last pair of a row against the steps, and the steps from it back to the first one."""
    pairs = [pair] + [further for _, further in row]
    back = [(letter, before) for (letter, _), before in zip(row, pairs)]
    return pairs[-1], back[::-1]


def lines_through(leads, pair, row):
    """Two lists of standings that begin in a pair, and go together through the pairs of a row of steps."""
    line, other_line = [pair[0]], [pair[1]]
    for letter, (one, other) in row:
        # A step may exchange both.
        straight = one in leads[(line[-1], letter)] and other in leads[(other_line[-1], letter)]
        line.append(one if straight else other)
        other_line.append(other if straight else one)
    return line, other_line


def line_around(form, ahead, behind, answer):
    """A list of standings through which the letters of a stretch lead, with an answer at its place."""
    leads = leads_of(form)
    lines = [[standing] for standing in standings(form) if ahead != "" or standing[1] == answer]
    for at, letter in enumerate(ahead + behind, start=1):
        # One line to each standing will do.
        longer = {}
        for line in lines:
            for lead in leads.get((line[-1], letter), []):
                if at != len(ahead) or lead[1] == answer:
                    longer.setdefault(lead, line + [lead])
        lines = list(longer.values())
    return lines[0]


def shortest_way(form, state, ends):
    """The list of (letter, kind) of the fewest arrows, at least one, from a state to one of some standings."""
    ways = ways_of(form.arrows)
    seen = {}
    tried = [(state, [])]
    while tried:
        longer = [(lead, way + [(letter, lead[1])]) for before, way in tried for letter in form.letters
                  for lead in ways.get((before, letter), [])]
        tried = []
        for lead, way in longer:
            if lead in ends:
                return way
            if lead[0] not in seen:
                seen[lead[0]] = True
                tried.append((lead[0], way))
    return None


def way_to_border(form, state):
    """The list of (letter, kind) of the fewest arrows, perhaps none, from a state to the border."""
    if state == 0:
        return []
    return shortest_way(form, state, [standing for standing in standings(form) if standing[0] == 0])


def text_along(form, letters, line):
    """(text, place): a text that goes with some letters through a list of standings, and its place at the first one."""
    head = shortest_way(form, 0, line[:1])
    tail = way_to_border(form, line[-1][0])
    word = "".join([letter for letter, _ in head] + letters + [letter for letter, _ in tail])
    told = [kind for _, kind in head] + [kind for _, kind in line[1:]] + [kind for _, kind in tail]
    return text_with(word, told), len(head)
