"""Places that are enough for a reading of a program, as few as can be, or none too many."""

from itertools import combinations

from pinsenough.enough import are_enough, other_reading
from pinsenough.errors import NotEnough, TooMany
from pinsenough.needs import Machine, best_choice, entry_at, need
from pinsenough.programs import shape_of, size_of

MOST_SIZE = 12


def pins_for(table, program, reading, lot):
    shape = shape_of(program)
    machine = Machine(table)
    steps = machine.steps_at(shape, reading, None)
    lots = [lot] * len(shape)
    places = []
    for node, (_, nodes) in enumerate(shape):
        states = tuple([steps[part][0] for part in nodes])
        choices = machine.choices(entry_at(shape, reading, node), states)
        _, pinned, chosen = best_choice(choices, lots[node])
        if pinned:
            places.append(node)
        for part, lot_there in zip(nodes, chosen):
            lots[part] = lot_there
    return tuple(places)


def least_pins(table, program, reading):
    return pins_for(table, program, reading, ())


def enough_of(table, program, reading, many):
    """The ascending list of all places, so many, that are enough."""
    size = size_of(program)
    return [places for places in combinations(range(size), many) if are_enough(table, program, reading, places)]


def all_least_pins(table, program, reading):
    if size_of(program) > MOST_SIZE:
        raise TooMany(MOST_SIZE)
    return enough_of(table, program, reading, need(table, program, reading))


class Others:
    """For each node, the kinds that readings have there that agree at places, but are other ones there."""

    def __init__(self, table, program, reading, places):
        self.reading = reading
        self.shape = shape_of(program)
        self.entries = [[entry for entry in table[2] if entry[0] == sign] for sign in range(len(table[1]))]
        self.above = [None] * len(self.shape)
        for node, (_, nodes) in enumerate(self.shape):
            for part in nodes:
                self.above[part] = node
        self.pinned = {place: True for place in places}
        self.kinds = [()] * len(self.shape)
        for node in reversed(range(len(self.shape))):
            self.kinds[node] = self.kinds_at(node, node in self.pinned, {})

    def is_other(self, entry, own, below):
        """Whether the entry stands at the top of another reading, below being the kinds of others of the parts."""
        if entry == own:
            return any([kind in kinds for kind, kinds in zip(own[1], below)])
        return all([part == kind or part in kinds for part, kind, kinds in zip(entry[1], own[1], below)])

    def kinds_at(self, node, pinned, changed):
        """The kinds at a node, changed telling those of some other nodes."""
        own = entry_at(self.shape, self.reading, node)
        below = [changed.get(part, self.kinds[part]) for part in self.shape[node][1]]
        found = [entry[2] for entry in self.entries[own[0]] if self.is_other(entry, own, below)]
        return tuple(sorted({kind for kind in found if not pinned or kind == own[2]}))

    def leave_out(self, place):
        """Leaves the place out if then, too, no other reading of the whole agrees."""
        changed = {}
        node = place
        while node is not None:
            kinds = self.kinds_at(node, node in self.pinned and node != place, changed)
            if kinds == self.kinds[node]:
                break
            changed[node] = kinds
            node = self.above[node]
        if changed.get(0, ()) == ():
            del self.pinned[place]
            for node, kinds in changed.items():
                self.kinds[node] = kinds


def thinned(table, program, reading, places):
    other = other_reading(table, program, reading, places)
    if other is not None:
        raise NotEnough(other)
    others = Others(table, program, reading, places)
    for place in reversed(places):
        others.leave_out(place)
    return tuple(sorted(others.pinned))
