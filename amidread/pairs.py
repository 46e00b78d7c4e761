"""Pairs of standings, how far rows of steps reach through them, and which numbers of letters are enough."""

from amidread.ways import links_of, ways_of


def standings(form):
    """The ascending tuple of the standings."""
    return tuple(sorted({arrow[2:] for arrow in form.arrows}))


def leads_of(form):
    """A dict from (standing, letter) to the list of the standings to which arrows lead from it."""
    ways = ways_of(form.arrows)
    return {(standing, letter): ways[(standing[0], letter)] for standing in standings(form)
            for letter in form.letters if (standing[0], letter) in ways}


def origins_of(form):
    """A dict from (standing, letter) to the list of the standings from which arrows lead to it."""
    leads = leads_of(form)
    return links_of([((target, letter), standing) for standing, letter in leads
                     for target in leads[(standing, letter)]])


def in_order(one, other):
    """The pair of two standings."""
    return (one, other) if one <= other else (other, one)


def leads_beside(letters, table, one, other):
    """The list of (letter, standing, other standing) for the leads, or the origins, of two standings."""
    return [(letter, lead, other_lead) for letter in letters
            for lead in table.get((one, letter), []) for other_lead in table.get((other, letter), [])]


def pairs_beyond(letters, table, pair):
    """The ascending list of (letter, pair) for the leads, or the origins, of both standings of a pair."""
    beside = leads_beside(letters, table, pair[0], pair[1])
    return sorted({(letter, in_order(lead, other_lead)) for letter, lead, other_lead in beside})


def steps(form, pair):
    """The ascending tuple of (letter, pair) for all steps from a pair."""
    return tuple(pairs_beyond(form.letters, leads_of(form), pair))


def witnesses(form):
    """The ascending tuple of the witnesses."""
    ascending = standings(form)
    return tuple([(one, other) for at, one in enumerate(ascending) if one[0] == 0 for other in ascending[at + 1:]])


class Reaches:
    """The reaches of pairs, one way: reaches out by the leads of a format, reaches in by its origins."""

    def __init__(self, letters, table):
        self.letters = letters
        self.table = table
        # Only what was asked for, and what it took to know it.
        self.known = {}

    def links(self, pair):
        """The ascending list of (letter, pair) one step further."""
        return pairs_beyond(self.letters, self.table, pair)

    def reach(self, pair):
        """The greatest number of steps in a row from a pair, this way, or None."""
        if pair not in self.known:
            self.explore(pair)
        return self.known[pair]

    def explore(self, pair):
        """Notes the reach of a pair that is not known."""
        row = []
        self.enter(pair, row)
        while row:
            here, beyond, waiting = row[-1]
            if not waiting:
                self.known[here] = max([self.known[further] + 1 for further in beyond], default=0)
                row.pop()
            else:
                further = waiting.pop()
                if further not in self.known:
                    self.enter(further, row)
                elif self.known[further] is None:
                    # It is in the row itself, or has no greatest number: so it is with all of the row.
                    return

    def enter(self, pair, row):
        """Puts a pair at the end of a row, with what is one step further; its reach is None so far."""
        self.known[pair] = None
        beyond = [further for _, further in self.links(pair)]
        row.append((pair, beyond, list(beyond)))

    def lasts(self, pair, length):
        """Whether so many steps in a row are possible from a pair, this way."""
        number = self.reach(pair)
        return number is None or number >= length


def reaches_in(form):
    """The reaches in of the pairs of a format."""
    return Reaches(form.letters, origins_of(form))


def reaches_out(form):
    """The reaches out of the pairs of a format."""
    return Reaches(form.letters, leads_of(form))


def reach_in(form, pair):
    """The greatest number of steps in a row that end in a pair, or None."""
    return reaches_in(form).reach(pair)


def reach_out(form, pair):
    """The greatest number of steps in a row that begin in a pair, or None."""
    return reaches_out(form).reach(pair)


def open_witnesses(form, ins, outs, a, b):
    """The list of the witnesses that can stand behind a steps and ahead of b steps."""
    return [pair for pair in witnesses(form) if ins.lasts(pair, a) and outs.lasts(pair, b)]


def corners(form):
    """The ascending tuple of the corners."""
    ins, outs = reaches_in(form), reaches_out(form)
    numbers = [ins.reach(pair) for pair in witnesses(form)]
    found = []
    # A greater number ahead helps only where it is above the reach in of one more witness.
    for a in sorted(set([0] + [number + 1 for number in numbers if number is not None])):
        behind = [outs.reach(pair) for pair in open_witnesses(form, ins, outs, a, 0)]
        if None not in behind:
            b = max([number + 1 for number in behind], default=0)
            if not found or b < found[-1][1]:
                found.append((a, b))
    return tuple(found)


def is_enough(form, a, b):
    """Whether two numbers are enough."""
    return not open_witnesses(form, reaches_in(form), reaches_out(form), a, b)
