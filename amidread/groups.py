"""Groups of states, and the words that lead from group to group.

A group is an integer with a bit for each state: the bit of state s is 1 << s.
"""

from amidread.ways import links_of

BORDER = 1


def every_state(form):
    """The group of all states of a format."""
    return (1 << form.states) - 1


def is_in(state, group):
    """Whether a state is in a group."""
    return group >> state & 1 == 1


def group_of(states):
    """The group of some states."""
    group = 0
    for state in states:
        group = group | 1 << state
    return group


def group_one_before(arrows, group):
    """The states from which some letter leads to a group."""
    return group_of([arrow[0] for arrow in arrows if is_in(arrow[2], group)])


def groups_before(arrows, word, group):
    """For each place of a word, from 0 on, the states from which the letters behind it lead to a group."""
    return Paces(turned(arrows)).groups_along(group, word[::-1])[::-1]


def turned(arrows):
    """The list of arrows that lead back."""
    return [(target, letter, source, kind) for source, letter, target, kind in arrows]


class Paces:
    """Where letters lead from groups of states, each worked out once."""

    def __init__(self, arrows):
        self.leads = links_of([(letter, (1 << source, 1 << target)) for source, letter, target, _ in arrows])
        self.seen = {}

    def group_after(self, group, letter):
        """The group to which a letter leads from a group."""
        if (group, letter) not in self.seen:
            after = 0
            for source, target in self.leads.get(letter, []):
                if group & source != 0:
                    after = after | target
            self.seen[(group, letter)] = after
        return self.seen[(group, letter)]

    def groups_along(self, group, word):
        """The list of the groups behind the letters of a word, the first one ahead of them all."""
        groups = [group]
        for letter in word:
            groups.append(self.group_after(groups[-1], letter))
        return groups


class Sight:
    """What the letters around a place tell of it, in one format."""

    def __init__(self, form):
        self.arrows = form.arrows
        self.every = every_state(form)
        self.paces = Paces(form.arrows)
        self.paces_back = Paces(turned(form.arrows))
        self.kinds_known = {}

    def groups_behind(self, group, word):
        """For each place of a word, the states to which its letters ahead of the place lead from a group."""
        return self.paces.groups_along(group, word)

    def groups_ahead(self, word, group):
        """For each place of a word, the states from which its letters behind the place lead to a group."""
        return self.paces_back.groups_along(group, word[::-1])[::-1]

    def kinds_between(self, group, letter, lasting):
        """The ascending tuple of the kinds of the arrows with a letter, or any letter for "", from group to group."""
        if (group, letter, lasting) not in self.kinds_known:
            kinds = [arrow[3] for arrow in self.arrows if letter in ("", arrow[1])
                     and is_in(arrow[0], group) and is_in(arrow[2], lasting)]
            self.kinds_known[(group, letter, lasting)] = tuple(sorted(set(kinds)))
        return self.kinds_known[(group, letter, lasting)]

    def answers(self, ahead, behind):
        """The ascending tuple of the answers with which a stretch occurs."""
        group = self.groups_behind(self.every, ahead[:-1])[-1]
        lasting = self.groups_ahead(behind, self.every)[0]
        # Where no letter ahead is asked for, some letter stands in front of the place all the same.
        return self.kinds_between(group, ahead[-1:], lasting)


def words_along(letters, arrows, lasting):
    """Yields, in order, the words along which states of some groups follow one another.

    lasting[k] is the group for the place with k letters behind it. From each of its states a letter
    must lead to the next group: then every beginning that is tried here is that of a word.
    """
    paces = Paces(arrows)
    todo = [("", lasting[-1])]
    while todo:
        word, group = todo.pop()
        left = len(lasting) - 1 - len(word)
        if left == 0:
            yield word
        else:
            for letter in letters[::-1]:
                after = paces.group_after(group, letter) & lasting[left - 1]
                if after != 0:
                    todo.append((word + letter, after))
