"""What the tests look things up with: the document's words done slowly, and many kinds of values."""

import functools
import itertools
import random

from pinsenough.errors import NoText, PinError, Wrong
from pinsenough.reader import Draft

LINE = (2, (0, 1), ((0, (), 0), (1, (0,), 0), (1, (0,), 1), (1, (1,), 1)))
LEAVES = (2, (0, 2), ((0, (), 0), (0, (), 1), (1, (0, 0), 0), (1, (0, 1), 0), (1, (1, 0), 0), (1, (1, 1), 0)))
MIXED = (3, (0, 1, 2), ((0, (), 0), (1, (0,), 0), (1, (0,), 1), (1, (1,), 1), (2, (1, 2), 2)))
PAIRS = (3, (0, 0, 2, 1), ((0, (), 0), (1, (), 0), (1, (), 1), (2, (0, 1), 2), (2, (1, 0), 2),
                           (2, (2, 0), 0), (2, (2, 2), 1), (3, (0,), 1), (3, (2,), 2)))
BARE = (1, (), ())
UNREAD = (2, (0, 2), ((1, (0, 1), 0), (1, (1, 1), 1)))
ALWAYS = (LINE, LEAVES, MIXED, PAIRS, BARE, UNREAD)


def random_table(seed, most_kinds=4, most_signs=4, most_entries=12):
    rng = random.Random(seed)
    many = rng.randint(1, most_kinds)
    signs = tuple(rng.choice((0, 0, 1, 1, 2)) for _ in range(rng.randint(0, most_signs)))
    entries = set()
    if signs:
        for _ in range(rng.randint(0, most_entries)):
            sign = rng.randrange(len(signs))
            parts = tuple(rng.randrange(many) for _ in range(signs[sign]))
            entries.add((sign, parts, rng.randrange(many)))
    return (many, signs, tuple(sorted(entries)))


def random_tables(count, start=0):
    return [random_table(seed) for seed in range(start, start + count)]


def lively_table(seed, most_kinds=3):
    """A table with leaves, and more often with rounds than the random ones."""
    rng = random.Random(seed)
    many = rng.randint(2, most_kinds)
    signs = (0, *(rng.choice((0, 1, 1, 1, 2)) for _ in range(rng.randint(1, 3))))
    entries = set()
    for sign, parts in enumerate(signs):
        for _ in range(rng.randint(1, (2, 5, 7)[parts])):
            entries.add((sign, tuple(rng.randrange(many) for _ in range(parts)), rng.randrange(many)))
    return (many, signs, tuple(sorted(entries)))


def lively_tables(count, start=0, most_kinds=3):
    return [lively_table(seed, most_kinds) for seed in range(start, start + count)]


def layered_table(seed):
    """A table whose wholes mostly have greater kinds than the parts: readings are many, but more often bounded."""
    rng = random.Random(seed)
    signs = (0, *rng.choices((0, 1, 2, 2), k=rng.randint(2, 4)))
    many = rng.randint(6, 20)
    entries = set()
    for _ in range(many * 3):
        sign, kind = rng.randrange(len(signs)), rng.randrange(4)
        parts = tuple(rng.randrange(4) for _ in range(signs[sign]))
        rises = all(part <= kind for part in parts) and (parts == () or min(parts) < kind or rng.random() < 0.25)
        if sign == 0 or rises:
            entries.add((sign, parts, kind))
    return (4, signs, tuple(sorted(rng.sample(sorted(entries), min(many, len(entries))))))


def layered_tables(count, start=0):
    return [layered_table(seed) for seed in range(start, start + count)]


def some_tables(count):
    return list(ALWAYS) + random_tables(count)


def programs_of_size(table, size, memo=None):
    """All programs of just this size, by the signs alone."""
    memo = {} if memo is None else memo
    if size not in memo:
        found = []
        for sign, many in enumerate(table[1]):
            if many == 0 and size == 1:
                found.append((sign,))
            if many == 1 and size > 1:
                found.extend((sign, part) for part in programs_of_size(table, size - 1, memo))
            if many == 2:
                for first in range(1, size - 1):
                    for one in programs_of_size(table, first, memo):
                        for other in programs_of_size(table, size - 1 - first, memo):
                            found.append((sign, one, other))
        memo[size] = found
    return memo[size]


def some_programs(table, most_size, most=400):
    found = []
    memo = {}
    for size in range(1, most_size + 1):
        found.extend(programs_of_size(table, size, memo)[:most])
        if len(found) > most:
            break
    return found


def slow_tree(table, program):
    """Whether program is one, by the signs alone."""
    return len(program) == 1 + table[1][program[0]] and all(slow_tree(table, part) for part in program[1:])


def size_by_parts(program):
    return 1 + sum(size_by_parts(part) for part in program[1:])


def some_program(table, size, rng):
    """A program of a size, by the signs alone, None if none was found."""
    signs = {parts: [sign for sign, many in enumerate(table[1]) if many == parts] for parts in range(3)}
    if size == 1:
        return (rng.choice(signs[0]),) if signs[0] else None
    parts = rng.choice([many for many in (1, 2) if signs[many] and size > many] or [0])
    if parts == 0:
        return None
    first = rng.randint(1, size - 2) if parts == 2 else size - 1
    below = [some_program(table, part, rng) for part in ((first, size - 1 - first) if parts == 2 else (first,))]
    return None if None in below else (rng.choice(signs[parts]), *below)


def nodes_of(program):
    """The programs at the nodes, in order."""
    if program is None:
        return [None]
    return [program] + [top for part in program[1:] for top in nodes_of(part)]


def readings_of(table, program):
    """All readings of a program or a context, ascending."""
    if program is None:
        return [(kind,) for kind in range(table[0])]
    found = set()
    below = [readings_of(table, part) for part in program[1:]]
    for sign, parts, kind in table[2]:
        if sign == program[0]:
            lists = [[reading for reading in row if reading[0] == part] for row, part in zip(below, parts)]
            for chosen in itertools.product(*lists):
                found.add((kind, *itertools.chain(*chosen)))
    return sorted(found)


@functools.lru_cache(500)
def tallies_cut(table, most):
    """The tallies that programs have, each number above most being most, also that of none; most is from 1 on."""
    found = set()
    before = None
    while before != len(found):
        before = len(found)
        for sign, many in enumerate(table[1]):
            for below in itertools.product(list(found), repeat=many):
                tally = [0] * table[0]
                for other, parts, kind in table[2]:
                    if other == sign:
                        ways = 1
                        for part, row in zip(parts, below):
                            ways *= row[part]
                        tally[kind] += ways
                found.add(tuple(min(number, most) for number in tally))
    return found


@functools.lru_cache(500)
def rows_had(table, width):
    """The rows of kinds that programs have."""
    return {row for tally in tallies_cut(table, 1)
            for row in itertools.product([kind for kind in range(table[0]) if tally[kind]], repeat=width)}


@functools.lru_cache(500)
def couples_apart(table):
    return {(one, other) for tally in tallies_cut(table, 2) for one in range(table[0]) for other in range(table[0])
            if tally[one] and tally[other] and (one != other or tally[one] > 1)}


@functools.lru_cache(500)
def leads(table, width):
    """All (row, other, rows of the other parts) by which a row leads to another, by the definition."""
    had = rows_had(table, width)
    found = set()
    for entries in itertools.product(table[2], repeat=width):
        if len({entry[0] for entry in entries}) == 1:
            rows = list(zip(*(entry[1] for entry in entries)))
            for place, row in enumerate(rows):
                rest = tuple(rows[:place] + rows[place + 1:])
                if all(other in had for other in rest):
                    found.add((row, tuple(entry[2] for entry in entries), rest))
    return found


def lots_without(table, kind):
    others = [other for other in range(table[0]) if other != kind]
    return sorted(lot for many in range(len(others) + 1) for lot in itertools.combinations(others, many))


def are_told(readings, reading, places, lot):
    """Whether each other reading that agrees at the places has a kind in the lot."""
    return all(row == reading or row[0] in lot or any(row[node] != reading[node] for node in places) for row in readings)


def costs_of(table, readings, reading):
    """The dict from each lot to its cost, all places gone through, readings being all of one program."""
    found = {}
    for lot in lots_without(table, reading[0]):
        asked = sorted({nodes for nodes in
                        (tuple(node for node, kind in enumerate(reading) if row[node] != kind)
                         for row in readings if row != reading and row[0] not in lot)})
        for many in range(len(reading) + 1):
            if any(all(any(node in places for node in nodes) for nodes in asked)
                   for places in itertools.combinations(range(len(reading)), many)):
                found[lot] = many
                break
    return found


def state_of(table, readings, reading):
    costs = costs_of(table, readings, reading)
    return (reading[0], tuple(lot for lot in costs if costs[lot] < costs[()]))


def agreeing(table, program, pins):
    return [reading for reading in readings_of(table, program)
            if all(reading[node] == kind for node, kind in pins.items())]


def is_reading(table, program, reading):
    """Just the definition: an entry at each node but the hole."""
    def width(top):
        return len(nodes_of(top))

    def fits(top, at):
        if top is None:
            return True
        ats = [at + 1 + sum(width(part) for part in top[1:place]) for place in range(1, len(top))]
        entry = (top[0], tuple(reading[part] for part in ats), reading[at])
        return entry in table[2] and all(fits(part, there) for part, there in zip(top[1:], ats))

    if type(reading) is not tuple or len(reading) != width(program):
        return False
    if not all(type(kind) is int and 0 <= kind < table[0] for kind in reading):
        return False
    return fits(program, 0)


def contexts_of(program):
    """All contexts that a program is with one hole."""
    if program is None:
        return []
    found = [None]
    for place in range(1, len(program)):
        for part in contexts_of(program[place]):
            found.append((*program[:place], part, *program[place + 1:]))
    return found


def nest(thing, deep, wrap):
    for _ in range(deep):
        thing = wrap(thing)
    return thing


def any_values():
    return [
        None, True, False, 0, 1, 2, -1, -7, 10 ** 39, -10 ** 39, "", "a", "kind a", "x" * 3000, " \n ", "~",
        [], (), {}, [0], (0,), (True,), (False,), ("",), (None,), [[0]], ((),), ((0,),), [()], {0: 0}, {True: 0},
        {0: True}, {"a": 0}, {None: None}, {(0,): 0}, {-1: 0}, {0: -1}, (0, 1), (1, 0), (0, 0), (0, 0, 0),
        (0, ()), (1, (), ()), (1, [], ()), (1, (), []), [1, (), ()], (True, (), ()), (0, (), ()), (1, (3,), ()),
        (1, (True,), ()), (1, (0,), ((0, (), False),)), (1, (0,), ((False, (), 0),)), (1, (0,), ((0, [], 0),)),
        (1, (0,), ((0, (), 0), (0, (), 0))), (1, (0,), [(0, (), 0)]), (1, (-1,), ()), (-1, (), ()), (1, None, None),
        ((), ()), ((), [()]), (("a",), ("b",)), (("a", "a"), ()), ("a", "b"), (("A",), ("b",)), (["a"], ["b"]),
        nest(None, 60, lambda thing: (0, thing)), nest((0,), 60, lambda thing: (1, thing)),
        nest([], 60, lambda thing: [thing]), nest({}, 60, lambda thing: {0: thing}), nest((), 60, lambda thing: (thing,)),
        (0,) * 3000, [0] * 3000, tuple(range(3000)), ((),) * 3000, tuple((kind,) for kind in range(3000)),
        {at: 0 for at in range(3000)}, ("a",) * 3000,
        PinError("x"), NoText(0), Wrong(None), (PinError(), 0), [NoText(1)], {0: NoText(0)}, Draft(),
    ]


def exchanged(value):
    """Many values that are value with one part of it, at any depth, exchanged, left out or added."""
    yield from (None, True, False, -1, 0, 1, 2, 3, 10 ** 39, "a", [], (), {}, PinError("x"))
    if type(value) is tuple or type(value) is list:
        kind = type(value)
        yield (list if kind is tuple else tuple)(value)
        for place, part in enumerate(value):
            yield kind([*value[:place], *value[place + 1:]])
            yield kind([*value[:place], part, *value[place:]])
            for other in exchanged(part):
                yield kind([*value[:place], other, *value[place + 1:]])
        yield kind([*value, 0])
        yield kind([*value, None])
        yield kind(reversed(value))
    if type(value) is dict:
        for key, part in value.items():
            rest = {other: value[other] for other in value if other != key}
            yield rest
            for other in exchanged(part):
                yield {**rest, key: other}
            for other in (None, True, False, -1, 10 ** 39, "a", (), (0,)):
                yield {**rest, other: part}


def spoil(value):
    """Changes the lists and dicts in what was returned."""
    if type(value) is list:
        for part in value:
            spoil(part)
        value.append("spoilt")
        value.reverse()
    elif type(value) is dict:
        for part in value.values():
            spoil(part)
        value["spoilt"] = True
    elif type(value) is tuple:
        for part in value:
            spoil(part)


def euclid(one, other):
    """A program of COUNTING that has one readings of kind 0 and other of kind 1; they have no common part."""
    steps = []
    while (one, other) != (1, 0):
        if other >= one:
            steps.append(1)
            other -= one
        else:
            steps.append(2)
            one, other = other, one
    program = (0,)
    for sign in reversed(steps):
        program = (sign, program)
    return program


# The sign 1 adds the readings of kind 0 to those of kind 1, the sign 2 gives both the other kind.
COUNTING = (2, (0, 1, 1), ((0, (), 0), (1, (0,), 0), (1, (0,), 1), (1, (1,), 1), (2, (0,), 1), (2, (1,), 0)))
