"""What the tests look things up with: the document's words done slowly, and many kinds of values."""

import itertools
import random

from pinsenough.errors import NoText, PinError, Wrong
from pinsenough.reader import Draft

LINE = (2, (0, 1), ((0, (), 0), (1, (0,), 0), (1, (0,), 1), (1, (1,), 1)))
LEAVES = (2, (0, 2), ((0, (), 0), (0, (), 1), (1, (0, 0), 0), (1, (0, 1), 0), (1, (1, 0), 0), (1, (1, 1), 0)))
MIXED = (3, (0, 1, 2), ((0, (), 0), (1, (0,), 0), (1, (0,), 1), (1, (1,), 1), (2, (1, 2), 2)))
PAIRS = (3, (0, 0, 2, 1), ((0, (), 0), (1, (), 0), (1, (), 1), (2, (0, 1), 2), (2, (1, 0), 2),
                           (2, (2, 0), 0), (2, (2, 2), 1), (3, (0,), 1), (3, (2,), 2)))
BARE = (1, (), ())
UNREAD = (2, (0, 2), ((1, (0, 1), 0), (1, (1, 1), 1)))
ALWAYS = (LINE, LEAVES, MIXED, PAIRS, BARE, UNREAD)


def random_table(seed, most_kinds=4, most_signs=4, most_entries=12):
    rng = random.Random(seed)
    many = rng.randint(1, most_kinds)
    signs = tuple(rng.choice((0, 0, 1, 1, 2)) for _ in range(rng.randint(0, most_signs)))
    entries = set()
    if signs:
        for _ in range(rng.randint(0, most_entries)):
            sign = rng.randrange(len(signs))
            parts = tuple(rng.randrange(many) for _ in range(signs[sign]))
            entries.add((sign, parts, rng.randrange(many)))
    return (many, signs, tuple(sorted(entries)))


def random_tables(count, start=0):
    return [random_table(seed) for seed in range(start, start + count)]


def some_tables(count):
    return list(ALWAYS) + random_tables(count)


def programs_of_size(table, size, memo=None):
    """All programs of just this size, by the signs alone."""
    memo = {} if memo is None else memo
    if size not in memo:
        found = []
        for sign, many in enumerate(table[1]):
            if many == 0 and size == 1:
                found.append((sign,))
            if many == 1 and size > 1:
                found.extend((sign, part) for part in programs_of_size(table, size - 1, memo))
            if many == 2:
                for first in range(1, size - 1):
                    for one in programs_of_size(table, first, memo):
                        for other in programs_of_size(table, size - 1 - first, memo):
                            found.append((sign, one, other))
        memo[size] = found
    return memo[size]


def some_programs(table, most_size, most=400):
    found = []
    memo = {}
    for size in range(1, most_size + 1):
        found.extend(programs_of_size(table, size, memo)[:most])
        if len(found) > most:
            break
    return found


def nodes_of(program):
    """The programs at the nodes, in order."""
    if program is None:
        return [None]
    return [program] + [top for part in program[1:] for top in nodes_of(part)]


def readings_of(table, program):
    """All readings of a program, ascending."""
    found = set()
    below = [readings_of(table, part) for part in program[1:]]
    for sign, parts, kind in table[2]:
        if sign == program[0]:
            lists = [[reading for reading in row if reading[0] == part] for row, part in zip(below, parts)]
            for chosen in itertools.product(*lists):
                found.add((kind, *itertools.chain(*chosen)))
    return sorted(found)


def agreeing(table, program, pins):
    return [reading for reading in readings_of(table, program)
            if all(reading[node] == kind for node, kind in pins.items())]


def is_reading(table, program, reading):
    """Just the definition: an entry at each node but the hole."""
    def width(top):
        return len(nodes_of(top))

    def fits(top, at):
        if top is None:
            return True
        ats = [at + 1 + sum(width(part) for part in top[1:place]) for place in range(1, len(top))]
        entry = (top[0], tuple(reading[part] for part in ats), reading[at])
        return entry in table[2] and all(fits(part, there) for part, there in zip(top[1:], ats))

    if type(reading) is not tuple or len(reading) != width(program):
        return False
    if not all(type(kind) is int and 0 <= kind < table[0] for kind in reading):
        return False
    return fits(program, 0)


def contexts_of(program):
    """All contexts that a program is with one hole."""
    if program is None:
        return []
    found = [None]
    for place in range(1, len(program)):
        for part in contexts_of(program[place]):
            found.append((*program[:place], part, *program[place + 1:]))
    return found


def nest(thing, deep, wrap):
    for _ in range(deep):
        thing = wrap(thing)
    return thing


def any_values():
    return [
        None, True, False, 0, 1, 2, -1, -7, 10 ** 39, -10 ** 39, "", "a", "kind a", "x" * 3000, " \n ", "~",
        [], (), {}, [0], (0,), (True,), (False,), ("",), (None,), [[0]], ((),), ((0,),), [()], {0: 0}, {True: 0},
        {0: True}, {"a": 0}, {None: None}, {(0,): 0}, {-1: 0}, {0: -1}, (0, 1), (1, 0), (0, 0), (0, 0, 0),
        (0, ()), (1, (), ()), (1, [], ()), (1, (), []), [1, (), ()], (True, (), ()), (0, (), ()), (1, (3,), ()),
        (1, (True,), ()), (1, (0,), ((0, (), False),)), (1, (0,), ((False, (), 0),)), (1, (0,), ((0, [], 0),)),
        (1, (0,), ((0, (), 0), (0, (), 0))), (1, (0,), [(0, (), 0)]), (1, (-1,), ()), (-1, (), ()), (1, None, None),
        ((), ()), ((), [()]), (("a",), ("b",)), (("a", "a"), ()), ("a", "b"), (("A",), ("b",)), (["a"], ["b"]),
        nest(None, 60, lambda thing: (0, thing)), nest((0,), 60, lambda thing: (1, thing)),
        nest([], 60, lambda thing: [thing]), nest({}, 60, lambda thing: {0: thing}), nest((), 60, lambda thing: (thing,)),
        (0,) * 3000, [0] * 3000, tuple(range(3000)), ((),) * 3000, tuple((kind,) for kind in range(3000)),
        {at: 0 for at in range(3000)}, ("a",) * 3000,
        PinError("x"), NoText(0), Wrong(None), (PinError(), 0), [NoText(1)], {0: NoText(0)}, Draft(),
    ]


def exchanged(value):
    """Many values that are value with one part of it, at any depth, exchanged, left out or added."""
    yield from (None, True, False, -1, 0, 1, 2, 3, 10 ** 39, "a", [], (), {}, PinError("x"))
    if type(value) is tuple or type(value) is list:
        kind = type(value)
        yield (list if kind is tuple else tuple)(value)
        for place, part in enumerate(value):
            yield kind([*value[:place], *value[place + 1:]])
            yield kind([*value[:place], part, *value[place:]])
            for other in exchanged(part):
                yield kind([*value[:place], other, *value[place + 1:]])
        yield kind([*value, 0])
        yield kind([*value, None])
        yield kind(reversed(value))
    if type(value) is dict:
        for key, part in value.items():
            rest = {other: value[other] for other in value if other != key}
            yield rest
            for other in exchanged(part):
                yield {**rest, key: other}
            for other in (None, True, False, -1, 10 ** 39, "a", (), (0,)):
                yield {**rest, other: part}


def spoil(value):
    """Changes the lists and dicts in what was returned."""
    if type(value) is list:
        for part in value:
            spoil(part)
        value.append("spoilt")
        value.reverse()
    elif type(value) is dict:
        for part in value.values():
            spoil(part)
        value["spoilt"] = True
    elif type(value) is tuple:
        for part in value:
            spoil(part)


def euclid(one, other):
    """A program of COUNTING that has one readings of kind 0 and other of kind 1; they have no common part."""
    steps = []
    while (one, other) != (1, 0):
        if other >= one:
            steps.append(1)
            other -= one
        else:
            steps.append(2)
            one, other = other, one
    program = (0,)
    for sign in reversed(steps):
        program = (sign, program)
    return program


# The sign 1 adds the readings of kind 0 to those of kind 1, the sign 2 gives both the other kind.
COUNTING = (2, (0, 1, 1), ((0, (), 0), (1, (0,), 0), (1, (0,), 1), (1, (1,), 1), (2, (0,), 1), (2, (1,), 0)))
