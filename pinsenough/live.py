"""A program that is led through changes, with pins, and duties that have to hold."""

from pinsenough.errors import Broken, Nothing, Wrong
from pinsenough.forms import is_below, is_integer, is_program, is_table, tops_of
from pinsenough.programs import program_at, put_at
from pinsenough.readings import kinds_left, numbers_left, reading_by, readings_many


def is_duty(table, thing):
    if not isinstance(thing, tuple) or not thing or not isinstance(thing[0], str):
        return False
    if len(thing) == 1:
        return thing[0] in ("read", "one")
    if len(thing) != 2:
        return False
    if thing[0] == "most":
        return is_integer(thing[1]) and thing[1] > 0
    return thing[0] == "kind" and is_below(thing[1], table[0])


def holds(duty, tally):
    """Whether a duty holds if so many readings of each kind are left."""
    many = sum(tally)
    if duty[0] == "one":
        return many == 1
    if duty[0] == "most":
        return 1 <= many <= duty[1]
    if duty[0] == "kind":
        return many > 0 and tally[duty[1]] == many
    return many > 0


def moved_pins(pins, node, before, behind):
    """The pins if at a node a program with so many nodes takes the place of one with so many before."""
    moved = {}
    for at in sorted(pins):
        if at < node:
            moved[at] = pins[at]
        elif at >= node + before:
            moved[at - before + behind] = pins[at]
    return moved


class Live:
    """What is led is a tuple (program, pins, duties), none of which is ever changed in place."""

    def __init__(self, table, program):
        if not is_table(table):
            raise Wrong(0)
        if not is_program(table, program):
            raise Wrong(1)
        self.table = table
        self.led = (program, {}, ())
        # What was led ahead of each change that stands, and behind each one that was taken back.
        self.earlier = []
        self.later = []

    def __eq__(self, other):
        return isinstance(other, Live) and self.table == other.table and self.led == other.led

    def is_node(self, thing):
        return is_below(thing, len(tops_of(self.led[0])))

    def begin_with(self, pins):
        """Has pins from now on that cannot be taken back."""
        program, _, duties = self.led
        self.led = (program, {node: pins[node] for node in sorted(pins)}, duties)

    def lead(self, program, pins, duties):
        """Leads these from now on, if all duties hold then."""
        tally = readings_many(self.table, program, pins)
        for duty in duties:
            if not holds(duty, tally):
                raise Broken(duty)
        self.earlier.append(self.led)
        self.later = []
        self.led = (program, pins, duties)

    def put(self, node, program):
        if not self.is_node(node):
            raise Wrong(0)
        if not is_program(self.table, program):
            raise Wrong(1)
        whole, pins, duties = self.led
        before = len(tops_of(program_at(whole, node)))
        moved = moved_pins(pins, node, before, len(tops_of(program)))
        self.lead(put_at(whole, node, program), moved, duties)

    def pin(self, node, kind):
        if not self.is_node(node):
            raise Wrong(0)
        if not is_below(kind, self.table[0]):
            raise Wrong(1)
        program, pins, duties = self.led
        self.lead(program, {**pins, node: kind}, duties)

    def unpin(self, node):
        program, pins, duties = self.led
        if not self.is_node(node) or node not in pins:
            raise Wrong(0)
        self.lead(program, {at: pins[at] for at in pins if at != node}, duties)

    def add_duty(self, duty):
        if not is_duty(self.table, duty):
            raise Wrong(0)
        program, pins, duties = self.led
        self.lead(program, pins, (*duties, duty))

    def drop_duty(self, index):
        program, pins, duties = self.led
        if not is_below(index, len(duties)):
            raise Wrong(0)
        self.lead(program, pins, (*duties[:index], *duties[index + 1:]))
        return duties[index]

    def back(self):
        if not self.earlier:
            raise Nothing()
        self.later.append(self.led)
        self.led = self.earlier.pop()

    def again(self):
        if not self.later:
            raise Nothing()
        self.earlier.append(self.led)
        self.led = self.later.pop()

    def program_now(self):
        return self.led[0]

    def pins_now(self):
        pins = self.led[1]
        return {node: pins[node] for node in sorted(pins)}

    def duties(self):
        return list(self.led[2])

    def left(self):
        return sum(readings_many(self.table, self.led[0], self.led[1]))

    def kinds_now(self):
        return kinds_left(self.table, self.led[0], self.led[1])

    def meant(self):
        if self.left() != 1:
            return None
        return reading_by(self.table, self.led[0], self.led[1], 0)

    def best_pin(self):
        program, pins, _ = self.led
        if self.left() <= 1:
            return None
        numbers = numbers_left(self.table, program, pins)
        found = [(number, node, kind) for node, row in enumerate(numbers) if node not in pins
                 for kind, number in enumerate(row) if number > 0]
        number, node, kind = min(found)
        return (node, kind, number)

    def twin(self):
        other = Live(self.table, self.led[0])
        other.led = self.led
        other.earlier = list(self.earlier)
        other.later = list(self.later)
        return other
