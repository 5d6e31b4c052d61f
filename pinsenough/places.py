"""Places that are enough for all readings of a program at once, as few as can be."""

from itertools import combinations

from pinsenough.errors import NoReading, TooMany
from pinsenough.needs import lies_in, rows_over
from pinsenough.programs import shape_of
from pinsenough.readings import MOST_READINGS, kinds_left, readings_many, readings_of, unread_node

MOST_PARTED = 24


def check_read(table, program, most):
    """Raises NoReading if a program has no reading, TooMany if it has more than most."""
    node = unread_node(table, program)
    if node is not None:
        raise NoReading(node)
    if sum(readings_many(table, program, {})) > most:
        raise TooMany(most)


def are_for_all(table, program, places):
    return unparted(table, program, places) is None


def unparted(table, program, places):
    check_read(table, program, MOST_READINGS)
    agreeing = {}
    for reading in readings_of(table, program, {}):
        agreeing.setdefault(tuple([reading[node] for node in places]), []).append(reading)
    # The readings stand in order: so of those that agree, no two are less than the first two.
    return min([(rows[0], rows[1]) for rows in agreeing.values() if len(rows) > 1], default=None)


def couple_of(one, other):
    return (min(one, other), max(one, other))


def may_be_taken(one, other, blurs):
    """Whether the parts of two entries have the same kinds, or couples that are blurred there."""
    return all([low == high or couple_of(low, high) in blur for low, high, blur in zip(one[0], other[0], blurs)])


def blur_of(entries, blurs):
    """The couples of unlike kinds that are blurred at a node if blurs are those at the tops of its parts.

    A couple of kinds is blurred if two unlike readings of these kinds agree at all places that are
    chosen. None is returned if two of the same kind do: nothing outside could tell them apart.
    entries are the (parts, kind) that readings of the whole have at the node.
    """
    found = {}
    for one, other in combinations(entries, 2):
        if may_be_taken(one, other, blurs):
            if one[1] == other[1]:
                return None
            found[couple_of(one[1], other[1])] = True
    return tuple(sorted(found))


def best_options(options):
    """The (blur, places) but those beside which another one blurs no more and has no more places."""
    kept = []
    for _, blur, places in sorted([(len(places), blur, places) for blur, places in options]):
        if not any([lies_in(other, blur) for other, _ in kept]):
            kept.append((blur, places))
    return kept


def options_at(node, entries, below):
    """The best (blur, places) of the program at a node, below having those of its parts."""
    found = []
    for chosen in rows_over(below):
        blur = blur_of(entries, [part[0] for part in chosen])
        if blur is not None:
            places = tuple([place for part in chosen for place in part[1]])
            found.append((blur, places))
            found.append(((), (node, *places)))
    return best_options(found)


def least_places(table, program):
    check_read(table, program, MOST_PARTED)
    shape = shape_of(program)
    left = kinds_left(table, program, {})
    # From the last node up, the options of the parts lie on top.
    options = []
    for node in reversed(range(len(shape))):
        sign, nodes = shape[node]
        entries = [(parts, kind) for other, parts, kind in table[2] if other == sign and kind in left[node]
                   and all([part in left[at] for part, at in zip(parts, nodes)])]
        below = [options.pop() for _ in nodes]
        options.append(options_at(node, entries, below))
    return min([places for blur, places in options[0] if blur == ()])
