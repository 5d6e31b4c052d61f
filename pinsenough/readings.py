"""The readings of a program that agree with pins: how many, which, and at which index."""

from pinsenough.errors import NoIndex, TooMany
from pinsenough.forms import is_below
from pinsenough.programs import shape_of

MOST_READINGS = 5000


def ways(tallies, parts):
    """The number of choices of readings, one for each part, of these kinds."""
    many = 1
    for tally, kind in zip(tallies, parts):
        many *= tally[kind]
    return many


def entries_at(table, shape, node):
    return [(parts, kind) for sign, parts, kind in table[2] if sign == shape[node][0]]


def tallies_of(table, shape, pins):
    """For each node, for each kind, the number of readings of the program at the node that agree."""
    tallies = [()] * len(shape)
    for node in reversed(range(len(shape))):
        below = [tallies[part] for part in shape[node][1]]
        tally = [0] * table[0]
        for parts, kind in entries_at(table, shape, node):
            if pins.get(node, kind) == kind:
                tally[kind] += ways(below, parts)
        tallies[node] = tuple(tally)
    return tallies


def readings_many(table, program, pins):
    return tallies_of(table, shape_of(program), pins)[0]


def options_at(table, shape, node, kind):
    """The ascending list of what the kinds of the parts may be, the node having this kind."""
    return [parts for parts, whole in entries_at(table, shape, node) if whole == kind]


def left_at_nodes(table, shape, tallies):
    """For each node, the ascending list of the kinds in all readings of the whole that agree."""
    met = [{} for _ in shape]
    met[0] = {kind: True for kind in range(table[0]) if tallies[0][kind]}
    for node, (_, nodes) in enumerate(shape):
        below = [tallies[part] for part in nodes]
        for parts, kind in entries_at(table, shape, node):
            if kind in met[node] and ways(below, parts):
                for part, met_there in zip(nodes, parts):
                    met[part][met_there] = True
    return [sorted(kinds) for kinds in met]


def kinds_left(table, program, pins):
    shape = shape_of(program)
    return [tuple(kinds) for kinds in left_at_nodes(table, shape, tallies_of(table, shape, pins))]


def numbers_left(table, program, pins):
    """For each node, for each kind, the number of the readings of the whole that agree and have it there."""
    shape = shape_of(program)
    tallies = tallies_of(table, shape, pins)
    # For each node, for each kind, the number of ways to read all but the program at it.
    around = [[0] * table[0] for _ in shape]
    around[0] = [1] * table[0]
    for node, (_, nodes) in enumerate(shape):
        below = [tallies[part] for part in nodes]
        for parts, kind in entries_at(table, shape, node):
            if pins.get(node, kind) == kind:
                for place, part in enumerate(nodes):
                    beside = ways(below[:place], parts[:place]) * ways(below[place + 1:], parts[place + 1:])
                    around[part][parts[place]] += around[node][kind] * beside
    return [[one * other for one, other in zip(tally, row)] for tally, row in zip(tallies, around)]


def joined(kind, options, below):
    """The ascending list of the readings of a kind that come of the parts' readings.

    below has, for each part, a dict from kinds, ascending, to ascending lists of readings.
    """
    begun = [((kind,), options)]
    for place, lists in enumerate(below):
        longer = []
        for start, still in begun:
            for part in lists:
                fitting = [parts for parts in still if parts[place] == part]
                if fitting:
                    longer.extend([(start + reading, fitting) for reading in lists[part]])
        begun = longer
    return [reading for reading, _ in begun]


def readings_of(table, program, pins):
    shape = shape_of(program)
    tallies = tallies_of(table, shape, pins)
    if sum(tallies[0]) > MOST_READINGS:
        raise TooMany(MOST_READINGS)
    # Of kinds that are left at a node there are no more readings there than of the whole.
    left = left_at_nodes(table, shape, tallies)
    # From the last node up, the parts' lists lie on top; they are not kept, as they may be very long.
    lists = []
    for node in reversed(range(len(shape))):
        below = [lists.pop() for _ in shape[node][1]]
        lists.append({kind: joined(kind, options_at(table, shape, node, kind), below) for kind in left[node]})
    return [reading for kind in left[0] for reading in lists[0][kind]]


def ways_behind(options, tallies, place, kind):
    """The number of choices for the parts behind a place, the part there having a kind."""
    fitting = [parts for parts in options if parts[place] == kind]
    return sum([ways(tallies[place + 1:], parts[place + 1:]) for parts in fitting])


def part_indexes(options, tallies, index):
    """For each part its kind, and the index among its readings of this kind, of an index of all."""
    told = []
    still = options
    for place, tally in enumerate(tallies):
        kind = 0
        behind = ways_behind(still, tallies, place, kind)
        while index >= tally[kind] * behind:
            index -= tally[kind] * behind
            kind += 1
            behind = ways_behind(still, tallies, place, kind)
        rank, index = divmod(index, behind)
        told.append((kind, rank))
        still = [parts for parts in still if parts[place] == kind]
    return told


def index_by_parts(options, tallies, told):
    """The index of all that part_indexes tells as told."""
    index = 0
    still = options
    for place, (kind, rank) in enumerate(told):
        for less in range(kind):
            index += tallies[place][less] * ways_behind(still, tallies, place, less)
        index += rank * ways_behind(still, tallies, place, kind)
        still = [parts for parts in still if parts[place] == kind]
    return index


def reading_by(table, program, pins, index):
    shape = shape_of(program)
    tallies = tallies_of(table, shape, pins)
    if not is_below(index, sum(tallies[0])):
        raise NoIndex(index)
    # The whole is taken as the one part of something that may have it with any kind.
    told = [(0, 0)] * len(shape)
    told[0] = part_indexes([(kind,) for kind in range(table[0])], tallies[:1], index)[0]
    for node, (_, nodes) in enumerate(shape):
        kind, rank = told[node]
        below = [tallies[part] for part in nodes]
        found = part_indexes(options_at(table, shape, node, kind), below, rank)
        for part, told_there in zip(nodes, found):
            told[part] = told_there
    return tuple([kind for kind, _ in told])


def index_of(table, program, pins, reading):
    shape = shape_of(program)
    tallies = tallies_of(table, shape, pins)
    ranks = [0] * len(shape)
    for node in reversed(range(len(shape))):
        nodes = shape[node][1]
        below = [tallies[part] for part in nodes]
        told = [(reading[part], ranks[part]) for part in nodes]
        ranks[node] = index_by_parts(options_at(table, shape, node, reading[node]), below, told)
    return sum(tallies[0][:reading[0]]) + ranks[0]


def unread_node(table, program):
    shape = shape_of(program)
    read = [any(tally) for tally in tallies_of(table, shape, {})]
    for node, (_, nodes) in enumerate(shape):
        if not read[node] and all([read[part] for part in nodes]):
            return node
    return None
