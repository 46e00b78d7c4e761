"""The ways that arrows make: where they lead, and machines made of them.

All functions take arrows that are known to be arrows.
"""


def ways_of(arrows):
    """A dict from (source, letter) to the list of (target, kind) to which they lead."""
    ways = {}
    for source, letter, target, kind in arrows:
        ways.setdefault((source, letter), []).append((target, kind))
    return ways


def group_behind(ways, group, letter):
    """The inner states, and the kinds of records, to which a letter leads from a group of states.

    Both are ascending tuples.
    """
    leads = [lead for state in group for lead in ways.get((state, letter), [])]
    inner = tuple(sorted({target for target, kind in leads if target != 0}))
    kinds = tuple(sorted({kind for target, kind in leads if target == 0}))
    return inner, kinds


class Walk:
    """Steps from groups of states to groups of states, each of them worked out once."""

    def __init__(self, ways):
        self.ways = ways
        self.known = {}

    def step(self, group, letter):
        """What group_behind tells of a group and a letter."""
        if (group, letter) not in self.known:
            self.known[(group, letter)] = group_behind(self.ways, group, letter)
        return self.known[(group, letter)]


def links_of(pairs):
    """A dict from each first part of some pairs to the list of their second parts."""
    links = {}
    for one, other in pairs:
        links.setdefault(one, []).append(other)
    return links


def states_reached(links):
    """A dict of the states to which one or more links lead from the border."""
    reached = {}
    todo = list(links.get(0, []))
    while todo:
        state = todo.pop()
        if state not in reached:
            reached[state] = True
            todo.extend(links.get(state, []))
    return reached


def states_on_ways(arrows):
    """A dict of the states that lie on the way of some record."""
    # A way may be followed over the border here: what is reached so is also
    # reached from the last border on that way.
    ahead = states_reached(links_of([(arrow[0], arrow[2]) for arrow in arrows]))
    back = states_reached(links_of([(arrow[2], arrow[0]) for arrow in arrows]))
    return {state: True for state in ahead if state in back}


def least_idle_state(arrows):
    """The least number that is no state on the way of some record."""
    busy = states_on_ways(arrows)
    state = 0
    while state in busy:
        state += 1
    return state


def arrows_beside(states, arrows):
    """The list of arrows with their inner states moved behind those of so many states."""
    moved = []
    for source, letter, target, kind in arrows:
        new_source = source + states - 1 if source != 0 else 0
        new_target = target + states - 1 if target != 0 else 0
        moved.append((new_source, letter, new_target, kind))
    return moved


def tree_of(records):
    """(states, arrows) with just these records; the inner states are the beginnings of words."""
    numbers = {}
    arrows = []
    for word, kind in sorted(set(records)):
        state = 0
        for letter in word[:-1]:
            if (state, letter) not in numbers:
                numbers[(state, letter)] = len(numbers) + 1
                arrows.append((state, letter, len(numbers), ""))
            state = numbers[(state, letter)]
        arrows.append((state, word[-1], 0, kind))
    return len(numbers) + 1, tuple(sorted(arrows))


def kinds_ahead(arrows):
    """The ascending list of (state, kind): inner states, and the kinds to which they lead."""
    back = links_of([(arrow[2], (arrow[0], arrow[3])) for arrow in arrows if arrow[0] != 0])
    found = {}
    todo = list(back.get(0, []))
    while todo:
        state, kind = todo.pop()
        if (state, kind) not in found:
            found[(state, kind)] = True
            todo.extend([(before, kind) for before, _ in back.get(state, [])])
    return sorted(found)


def backward_of(arrows):
    """(states, arrows) with the words of all records backwards."""
    # Backwards a kind is met at the first letter, and told at the last one:
    # the inner states between must know it.
    pairs = kinds_ahead(arrows)
    numbers = {pair: number for number, pair in enumerate(pairs, start=1)}
    kinds = links_of(pairs)
    turned = []
    for source, letter, target, kind in arrows:
        for known in kinds.get(target, [kind]):
            new_source = numbers.get((target, known), 0)
            new_target = numbers.get((source, known), 0)
            turned.append((new_source, letter, new_target, known if new_target == 0 else ""))
    return len(pairs) + 1, tuple(sorted(turned))
