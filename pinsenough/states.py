"""The states of readings that come about, and the steps by which they do."""

from pinsenough.couples import shown_marks
from pinsenough.errors import TooMany
from pinsenough.forms import is_state
from pinsenough.needs import Machine, rows_over
from pinsenough.programs import shape_of

MOST_STATES = 40


class States:
    """The states that come about by a table, at most forty."""

    def __init__(self, table):
        self.machine = Machine(table)
        self.entries = table[2]
        # For each kind, a dict with the states of this kind as keys.
        self.by_kind = [{} for _ in range(table[0])]
        changed = True
        while changed:
            changed = False
            for entry, states in self.chances():
                state, _ = self.machine.step(entry, states)
                if state not in self.by_kind[state[0]]:
                    self.by_kind[state[0]][state] = True
                    changed = True
                    if len(self.all_states()) > MOST_STATES:
                        raise TooMany(MOST_STATES)

    def chances(self):
        """All tuples (entry, states of the parts), ascending."""
        found = []
        for entry in self.entries:
            lists = [sorted(self.by_kind[kind]) for kind in entry[1]]
            found.extend([(entry, states) for states in rows_over(lists)])
        return found

    def all_states(self):
        return [state for states in self.by_kind for state in sorted(states)]

    def all_steps(self):
        return [(entry, states, *self.machine.step(entry, states)) for entry, states in self.chances()]


def state_of(table, program, reading):
    return led_state(table, program, reading, None)[0]


def states_of(table):
    return States(table).all_states()


def steps_of(table):
    return States(table).all_steps()


def has_all_states(table, steps, thing):
    """Whether thing, any value, is a dict whose keys are just the states that come about by all steps."""
    states = {state for _, _, state, _ in steps}
    if not isinstance(thing, dict) or len(thing) != len(states):
        return False
    return all([is_state(table, key) and key in states for key in thing])


def led_on(table, entry, states):
    return States(table).machine.step(entry, states)


def state_mark(state):
    """A state as shown_marks takes it: its kind as a row of one kind."""
    return ((state[0],), state[1])


def marked_steps(steps):
    """The steps as shown_marks takes them."""
    return [(entry[0], tuple([state_mark(part) for part in states]), state_mark(state))
            for entry, states, state, _ in steps]


def shown_states(steps):
    """The dict from each state, ascending, to a tuple (program, reading) of the least size by these steps."""
    found = shown_marks(marked_steps(steps))
    return {(row[0], cheap): found[(row, cheap)] for row, cheap in sorted(found)}


def examples(table):
    return shown_states(steps_of(table))


def led_state(table, context, reading, state):
    steps = States(table).machine.steps_at(shape_of(context), reading, state)
    return (steps[0][0], sum([gain for _, gain in steps]))
