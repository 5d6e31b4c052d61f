"""Trees that ask for the kinds at nodes, one behind the other, until one reading is left."""

from pinsenough.forms import is_below, is_reading, tops_of
from pinsenough.places import check_read
from pinsenough.readings import MOST_READINGS, readings_of

MOST_ASKED = 12


def height_of(tree):
    height = 0
    layer = [tree]
    while layer:
        asks = [row for row in layer if row[0] == "ask"]
        height += int(len(asks) > 0)
        layer = [below for ask in asks for below in ask[2].values()]
    return height


def is_ask(table, many, thing):
    """Whether thing is an ask of one of so many nodes; what stands below it is not looked at."""
    if not isinstance(thing, tuple) or len(thing) != 3 or thing[0] != "ask" or not is_below(thing[1], many):
        return False
    trees = thing[2]
    return isinstance(trees, dict) and len(trees) > 0 and all([is_below(kind, table[0]) for kind in trees])


def is_end(table, program, thing):
    return isinstance(thing, tuple) and len(thing) == 2 and thing[0] == "end" and is_reading(table, program, thing[1])


def coming(readings, node, kind):
    return [reading for reading in readings if reading[node] == kind]


def finds_all(table, program, thing):
    check_read(table, program, MOST_READINGS)
    many = len(tops_of(program))
    # Each tree with the readings that come there.
    waiting = [(thing, readings_of(table, program, {}))]
    while waiting:
        tree, readings = waiting.pop()
        if is_ask(table, many, tree):
            _, node, trees = tree
            if not all([reading[node] in trees for reading in readings]):
                return False
            waiting.extend([(trees[kind], coming(readings, node, kind)) for kind in trees])
        elif not is_end(table, program, tree) or not all([reading == tree[1] for reading in readings]):
            return False
    return True


def found_by(tree, reading):
    nodes = []
    while tree[0] == "ask":
        _, node, trees = tree
        nodes.append(node)
        tree = trees[reading[node]]
    return tuple(nodes)


def columns_of(readings):
    """The (node, lots by kind) of the nodes at which readings differ, but of nodes that part them alike just the first.

    A lot of readings is an integer that has the bits at their indexes.
    """
    columns = []
    met = []
    for node in range(len(readings[0])):
        lots = {}
        for index, reading in enumerate(readings):
            lots[reading[node]] = lots.get(reading[node], 0) + (1 << index)
        parts = sorted(list(lots.values()))
        if len(parts) > 1 and parts not in met:
            met.append(parts)
            columns.append((node, {kind: lots[kind] for kind in sorted(lots)}))
    return columns


def parts_in(lots, lot):
    """From each kind to what of its lot is in the other lot, if something is."""
    return {kind: lots[kind] & lot for kind in lots if lots[kind] & lot}


def lots_met(columns, whole):
    """The ascending list of all lots of readings that asks lead to."""
    met = {whole: True}
    waiting = [whole]
    while waiting:
        lot = waiting.pop()
        for _, lots in columns:
            for part in parts_in(lots, lot).values():
                if part not in met:
                    met[part] = True
                    waiting.append(part)
    return sorted(met)


def best_asks(columns, whole):
    """From each lot that asks lead to, ascending, to the least (height, column) of a tree for it.

    The column is the index of that of the first ask, None if just one reading is in the lot.
    """
    best = {}
    # What an ask leads to is less, as an integer, than the lot ahead of it.
    for lot in lots_met(columns, whole):
        found = []
        for index, (_, lots) in enumerate(columns):
            parts = parts_in(lots, lot)
            if len(parts) > 1:
                found.append((1 + max([best[part][0] for part in parts.values()]), index))
        best[lot] = min(found, default=(0, None))
    return best


def read_to_ask(table, program):
    """The readings of a program, with their columns and the lot of them all."""
    check_read(table, program, MOST_ASKED)
    readings = readings_of(table, program, {})
    return (readings, columns_of(readings), (1 << len(readings)) - 1)


def fewest_asks(table, program):
    _, columns, whole = read_to_ask(table, program)
    return best_asks(columns, whole)[whole][0]


def best_tree(table, program):
    readings, columns, whole = read_to_ask(table, program)
    trees = {}
    for lot, (_, index) in best_asks(columns, whole).items():
        if index is None:
            trees[lot] = ("end", readings[lot.bit_length() - 1])
        else:
            node, lots = columns[index]
            trees[lot] = ("ask", node, {kind: trees[part] for kind, part in parts_in(lots, lot).items()})
    return trees[whole]
