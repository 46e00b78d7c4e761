"""What several tests use: the document's formats, odd values, and slow but plain answers."""

import copy
import itertools
import random

from amidread.formats import Format

CODE = Format.book("ab", ("aab", "abb"))
SWAP = Format.book("ab", ("ab", "ba"))
ITEM_ARROWS = ((0, "a", 0, "stop"), (0, "b", 1, ""), (1, "a", 1, ""), (1, "b", 0, "item"))
ITEMS = Format("ab", 2, ITEM_ARROWS)


def nested(depth):
    """A value nested so deep, with lists, tuples and dicts in turn."""
    thing = 0
    for level in range(depth):
        thing = ([thing], (thing,), {"a": thing})[level % 3]
    return thing


ODD_VALUES = (
    None, True, False, 0, 1, -1, 2, 10 ** 39, -10 ** 39, "", " ", "a", "b", "ab", "abc", "z",
    "A", "a b", "ab\n", "\n", "~", "word", "a" * 2000, (), (0,), (0, 0), ("a", "x"), ("", "x"),
    ("a", ""), ["a", "x"], ("a", "x", "y"), (0, "a", 0, "x"), [0, "a", 0, "x"], [], [[]], {},
    {"a": 1}, {0: "a"}, (None,), ("a", None), (True, "a", False, "x"), nested(30), [0] * 4999,
    CODE, SWAP, (CODE,), [ITEMS],
)


def same(one, other):
    """Whether two values are equal, also in what is a bool, a list or a tuple."""
    if one is other:
        return True
    if type(one) is not type(other):
        return False
    if isinstance(one, (list, tuple)):
        return len(one) == len(other) and all(map(same, one, other))
    if isinstance(one, dict):
        return same(list(one.items()), list(other.items()))
    return one == other


def shape(form):
    """All that a format shows."""
    return (form.letters, form.states, form.arrows)


def error_of(make, *args, **named):
    """The error that a call raises, or None."""
    try:
        make(*args, **named)
    except Exception as error:
        return error
    return None


def words_up_to(letters, length):
    """All words of at most so many letters, in the order of words."""
    return ["".join(word) for size in range(length + 1) for word in itertools.product(letters, repeat=size)]


def records_by_ways(arrows, length):
    """The set of the records of at most so many letters, found way by way."""
    found = set()
    ways = {(0, "")}
    for _ in range(length):
        longer = set()
        for state, word in ways:
            for source, letter, target, kind in arrows:
                if source == state and target == 0:
                    found.add((word + letter, kind))
                elif source == state:
                    longer.add((target, word + letter))
        ways = longer
    return found


def records_by_asking(form, length):
    """The set of the records of at most so many letters, as kinds_of tells them."""
    return {(word, kind) for word in words_up_to(form.letters, length) for kind in form.kinds_of(word)}


def states_on_ways(states, arrows):
    """The states on ways of records, by joining ways until none is new."""
    ways = {(arrow[0], arrow[2]) for arrow in arrows}
    size = -1
    while size < len(ways):
        size = len(ways)
        ways |= {(a, d) for a, b in ways for c, d in ways if b == c and b != 0}
    inner = {state for state in range(1, states) if (0, state) in ways and (state, 0) in ways}
    return inner | ({0} if (0, 0) in ways else set())


def random_format(chance, letters="ab", states=4, arrows=9, kinds=("x", "y")):
    """A format of so many states at most; states that are of no use are left out."""
    while True:
        made = set()
        for _ in range(arrows):
            target = chance.randrange(states)
            kind = chance.choice(kinds) if target == 0 else ""
            made.add((chance.randrange(states), chance.choice(letters), target, kind))
        useful = sorted(states_on_ways(states, made))
        if useful:
            break
    number = {state: at for at, state in enumerate(useful)}
    kept = [a for a in made if a[0] in number and a[2] in number]
    return Format(letters, len(useful), tuple(sorted((number[a[0]], a[1], number[a[2]], a[3]) for a in kept)))


def random_formats(seed, many, **sizes):
    """So many formats, the same ones at each run."""
    chance = random.Random(seed)
    return [random_format(chance, **sizes) for _ in range(many)]


def unchanged_by(call, *args):
    """Whether a call, that may raise an error, leaves its arguments as they are."""
    before = copy.deepcopy(args)
    error_of(call, *args)
    return same(list(args), list(before))


def renumbered(form):
    """The same format with its inner states in the opposite order."""
    number = {state: form.states - state for state in range(1, form.states)}
    number[0] = 0
    arrows = [(number[source], letter, number[target], kind) for source, letter, target, kind in form.arrows]
    return Format(form.letters, form.states, tuple(sorted(arrows)))


def written_otherwise(form):
    """Formats with the same records."""
    return [form | form, form.backward().backward(), Format.read(form.text), renumbered(form),
            renumbered(form) | form.backward().backward()]


def texts_up_to(form, length):
    """The list of the texts with at most so many letters."""
    records = records_by_ways(form.arrows, length)
    found = [()]
    for text in found:
        used = sum(len(word) for word, kind in text)
        found.extend(text + (record,) for record in records if used + len(record[0]) <= length)
    return found


def spelt(text):
    """The letters of a text, and in a list the answers behind each of them."""
    return ("".join(word for word, kind in text),
            [kind if at == len(word) - 1 else "" for word, kind in text for at in range(len(word))])


def answers_by_rows(form, a, b):
    """A dict from each stretch of a and b letters that occurs to the set of its answers.

    It follows all rows of arrows, the first of which stands in front of the place when no letters ahead count.
    """
    rows = {("", state, None) for state in range(form.states)}
    ahead = max(a, 1)
    for at in range(1, ahead + b + 1):
        rows = {(word + letter, target, kind if at == ahead else answer)
                for word, state, answer in rows
                for source, letter, target, kind in form.arrows if source == state}
    found = {}
    for word, state, answer in rows:
        found.setdefault((word[ahead - a:ahead], word[ahead:]), set()).add(answer)
    return found


def enough_by_rows(form, a, b):
    """Whether no stretch of a and b letters has two answers."""
    return all(len(answers) == 1 for answers in answers_by_rows(form, a, b).values())


def first_of(made, many):
    """So many items of a generator, at most."""
    return list(itertools.islice(made, many))


def with_part(thing, path, part):
    """A nested value with one part replaced; the path to it has an index for each depth."""
    if not path:
        return part
    items = list(thing)
    items[path[0]] = with_part(items[path[0]], path[1:], part)
    return type(thing)(items)


def paths_in(thing):
    """The paths to all parts of nested tuples and lists, the whole among them."""
    if not isinstance(thing, (tuple, list)):
        return [()]
    return [()] + [(at,) + path for at, part in enumerate(thing) for path in paths_in(part)]


def part_at(thing, path):
    """The part of a nested value at the end of a path."""
    for at in path:
        thing = thing[at]
    return thing


def spoilt_parts(part):
    """Values that can stand in the place of a part and are much like it."""
    if isinstance(part, bool):
        return [int(part), not part, None]
    if isinstance(part, int):
        return [part + 1, part - 1, -part, bool(part), str(part), None, 10 ** 39]
    if isinstance(part, str):
        return [part + "a", part[:-1], part + "A", part[::-1], "", list(part), None, 0, "word", "x"]
    if isinstance(part, tuple):
        return ([list(part), part + part, part[:-1], part[1:], part[::-1], part + (None,), (), (part,), None, "", {}]
                + [part[:at] + part[at + 1:] for at in range(len(part))]
                + [part[:at] + part[at:at + 1] + part[at:] for at in range(len(part))])
    return [None, 0]


def spoilt(thing):
    """Values that differ from a nested value in one part."""
    return [with_part(thing, path, part) for path in paths_in(thing) for part in spoilt_parts(part_at(thing, path))]


def enterable(words):
    """Whether no circle of letters can be cut into words of a book at two unlike sets of places.

    Two ways to cut go along beside each other; a knot is what one of them is ahead of the other.
    """
    knots = {""} | {word[at:] for word in words for at in range(1, len(word))}
    links = {}
    for knot in knots:
        found = set()
        for word in words:
            if word.startswith(knot):
                found.add(word[len(knot):])
            elif knot.startswith(word):
                found.add(knot[len(word):])
        if knot == "":
            # Both ways take words here, unlike ones: the longer one begins with the other.
            found = {word[len(other):] for word in words for other in words if word != other and word.startswith(other)}
        links[knot] = found
    left = set(knots)
    size = -1
    while size != len(left):
        size = len(left)
        left = {knot for knot in left if links[knot] & left}
    return not left
