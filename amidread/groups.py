"""Groups of states, and the words that lead from group to group.

A group is an integer with a bit for each state: the bit of state s is 1 << s.
"""

BORDER = 1


def every_state(form):
    """The group of all states of a format."""
    return (1 << form.states) - 1


def is_in(state, group):
    """Whether a state is in a group."""
    return group >> state & 1 == 1


def group_of(states):
    """The group of some states."""
    group = 0
    for state in states:
        group = group | 1 << state
    return group


def group_one_before(arrows, group):
    """The states from which some letter leads to a group."""
    return group_of([arrow[0] for arrow in arrows if is_in(arrow[2], group)])


def groups_before(arrows, word, group):
    """For each place of a word, from 0 on, the states from which the letters behind it lead to a group."""
    groups = [group]
    for letter in word[::-1]:
        behind = [arrow for arrow in arrows if arrow[1] == letter]
        groups.append(group_one_before(behind, groups[-1]))
    return groups[::-1]


class Paces:
    """Where letters lead from groups of states, each worked out once."""

    def __init__(self, arrows):
        self.arrows = arrows
        self.seen = {}

    def group_after(self, group, letter):
        """The group to which a letter leads from a group."""
        if (group, letter) not in self.seen:
            targets = [arrow[2] for arrow in self.arrows if arrow[1] == letter and is_in(arrow[0], group)]
            self.seen[(group, letter)] = group_of(targets)
        return self.seen[(group, letter)]


def words_along(form, lasting):
    """Yields, in order, the words along which states of some groups follow one another.

    lasting[k] is the group for the place with k letters behind it. From each of its states a letter
    must lead to the next group: then every beginning that is tried here is that of a word.
    """
    paces = Paces(form.arrows)
    todo = [("", lasting[-1])]
    while todo:
        word, group = todo.pop()
        left = len(lasting) - 1 - len(word)
        if left == 0:
            yield word
        else:
            for letter in form.letters[::-1]:
                after = paces.group_after(group, letter) & lasting[left - 1]
                if after != 0:
                    todo.append((word + letter, after))
