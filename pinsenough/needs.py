"""How many places a reading of a program needs, told from the last node up."""

from pinsenough.errors import NoReading
from pinsenough.programs import shape_of
from pinsenough.readings import unread_node


def rows_over(lists):
    """All tuples with a member of each of the lists, in order."""
    rows = [()]
    for members in lists:
        rows = [(*row, member) for row in rows for member in members]
    return rows


def lots_of(members):
    """The ascending list of all tuples with some of the members, perhaps none, in their order."""
    lots = [()]
    for member in members:
        lots = lots + [(*lot, member) for lot in lots]
    return sorted(lots)


def lots_without(many, kind):
    """The ascending list of all LOTS of so many kinds that have not this one."""
    return lots_of([other for other in range(many) if other != kind])


def lies_in(lot, other):
    return all([kind in other for kind in lot])


def least_lots(lots):
    """The lots in which no other one of them lies."""
    return [lot for lot in lots if not any([other != lot and lies_in(other, lot) for other in lots])]


class Machine:
    """What states and gains come of entries and of the states of parts, for one table.

    A reading of a part is told apart from all others of its kind, or it could not be told in the
    whole. So for each part it is enough to choose the lot, without its own kind, in which the kinds
    of its other readings are left: (), at its need, or a cheap one, at one place less.
    """

    def __init__(self, table):
        self.lots = [lots_without(table[0], kind) for kind in range(table[0])]
        self.entries = [[entry for entry in table[2] if entry[0] == sign] for sign in range(len(table[1]))]
        self.options = {}
        self.beside = {}
        self.known = {}

    def options_of(self, state):
        """The lots, of which one is enough to choose for a part of this state."""
        if state not in self.options:
            self.options[state] = [(), *least_lots(state[1])]
        return self.options[state]

    def kinds_beside(self, entry, lots):
        """The kinds of other readings of the whole, those of its parts being left with kinds in lots."""
        key = (entry, lots)
        if key not in self.beside:
            left = [(own, *lot) for own, lot in zip(entry[1], lots)]
            fitting = []
            for other in self.entries[entry[0]]:
                if other != entry and all([part in kinds for part, kinds in zip(other[1], left)]):
                    fitting.append(other[2])
            self.beside[key] = tuple(sorted(set(fitting)))
        return self.beside[key]

    def choices(self, entry, states):
        """All tuples (saved, kinds, lots): a lot for each part, by which no other reading is of the own kind.

        saved is the number of places less than the parts' needs, kinds are those of the other readings.
        """
        found = []
        for lots in rows_over([self.options_of(state) for state in states]):
            kinds = self.kinds_beside(entry, lots)
            if entry[2] not in kinds:
                found.append((len([lot for lot in lots if lot]), kinds, lots))
        return found

    def step(self, entry, states):
        """The tuple (state, gain) of a reading with this entry at the top, its parts having these states."""
        key = (entry, states)
        if key not in self.known:
            choices = self.choices(entry, states)
            most = max([saved for saved, _, _ in choices])
            # To save one place less and to put one at the top come to the same: so these choices are enough.
            left = sorted({kinds for saved, kinds, _ in choices if saved == most})
            cheap = [lot for lot in self.lots[entry[2]] if any([lies_in(kinds, lot) for kinds in left])]
            if () in left:
                self.known[key] = ((entry[2], ()), -most)
            else:
                self.known[key] = ((entry[2], tuple(cheap)), 1 - most)
        return self.known[key]

    def steps_at(self, shape, reading, state):
        """For each node its (state, gain); that of the hole, if there is one, is (state, 0)."""
        steps = [(state, 0)] * len(shape)
        for node in reversed(range(len(shape))):
            if shape[node][0] is not None:
                states = tuple([steps[part][0] for part in shape[node][1]])
                steps[node] = self.step(entry_at(shape, reading, node), states)
        return steps


def best_choice(choices, lot):
    """The least (more, pinned, lots): more places than the parts' needs, whether one is the top.

    All other readings that are left have their kinds in the lot then.
    """
    found = []
    for saved, kinds, lots in choices:
        found.append((1 - saved, True, lots))
        if lies_in(kinds, lot):
            found.append((-saved, False, lots))
    return min(found)


def entry_at(shape, reading, node):
    sign, nodes = shape[node]
    return (sign, tuple([reading[part] for part in nodes]), reading[node])


def costs(table, program, reading):
    steps = Machine(table).steps_at(shape_of(program), reading, None)
    most = sum([gain for _, gain in steps])
    _, cheap = steps[0][0]
    return {lot: most - int(lot in cheap) for lot in lots_without(table[0], reading[0])}


def need(table, program, reading):
    return sum(gains(table, program, reading))


def need_told(table, program, reading):
    others = tuple([kind for kind in range(table[0]) if kind != reading[0]])
    return costs(table, program, reading)[others]


def gains(table, program, reading):
    steps = Machine(table).steps_at(shape_of(program), reading, None)
    return [gain for _, gain in steps]


def is_better(one, other):
    """Whether of two tuples (need, reading) the one has a greater need, or the same and a lesser reading."""
    return one[0] > other[0] or (one[0] == other[0] and one[1] < other[1])


def best_by_states(machine, sign, below):
    """From each state of a reading of a whole to (need, reading), the best one; below tells it of the parts.

    For each state of a part the best reading is enough: all others of this state give as much, or less.
    """
    found = {}
    for entry in machine.entries[sign]:
        fitting = [[part for part in best if part[0] == kind] for best, kind in zip(below, entry[1])]
        for states in rows_over(fitting):
            state, gain = machine.step(entry, states)
            parts = [best[part] for best, part in zip(below, states)]
            reading = [entry[2]]
            for part in parts:
                reading.extend(part[1])
            told = (gain + sum([part[0] for part in parts]), tuple(reading))
            if state not in found or is_better(told, found[state]):
                found[state] = told
    return found


def greatest_of(table, program):
    node = unread_node(table, program)
    if node is not None:
        raise NoReading(node)
    machine = Machine(table)
    # From the last node up, what is told of the parts lies on top.
    told = []
    for sign, nodes in reversed(shape_of(program)):
        below = [told.pop() for _ in nodes]
        told.append(best_by_states(machine, sign, below))
    best = list(told[0].values())
    most = max([number for number, _ in best])
    return (most, min([reading for number, reading in best if number == most]))
