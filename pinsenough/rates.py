"""How many places programs need for each of their nodes at most, and what shows it."""

from heapq import heappop, heappush
from math import gcd, lcm

from pinsenough.couples import shown_marks
from pinsenough.forms import is_context, is_integer, is_reading, is_state
from pinsenough.programs import hole_of, size_of
from pinsenough.rounds import mark_leads, told_along
from pinsenough.states import has_all_states, led_state, marked_steps, steps_of


def lowest(num, den):
    """The FRACTION that num is of den, den being above 0."""
    common = gcd(num, den)
    return (num // common, den // common)


def is_fraction(thing):
    if not isinstance(thing, tuple) or len(thing) != 2 or not all([is_integer(part) for part in thing]):
        return False
    return thing[1] > 0 and gcd(thing[0], thing[1]) == 1


class Climb:
    """For each state, what a reading of it is worth at most, by a fraction (num, den).

    A reading is worth den times its need, less num times its size. If a context that leads a state
    to the same state is worth more than 0, there is no most: then steep is the tuple (gain, size) of one.
    """

    def __init__(self, steps, fraction):
        self.fraction = fraction
        # From each state to the (worth, gain, size) of the best reading that was met.
        self.best = {}
        self.steep = None
        grown = self.climb([step for step in steps if not step[1]], {})
        while grown and self.steep is None:
            grown = self.climb([step for step in steps if any([part in grown for part in step[1]])], grown)

    def told(self, step):
        """The (worth, gain, size) of a reading that comes by a step of the best ones of its parts."""
        num, den = self.fraction
        below = [self.best[part] for part in step[1]]
        gain = step[3] + sum([part[1] for part in below])
        size = 1 + sum([part[2] for part in below])
        return (den * gain - num * size, gain, size)

    def climb(self, steps, grown):
        """Takes the steps, all at once, and returns the states that grow, each with a way on which it does.

        A way has the states on a line from a leaf up, each of which grew by the one below it, with their
        readings then. So what lies on it between one state met twice is worth more than 0.
        """
        better = {}
        ways = {}
        for step in steps:
            if all([part in self.best for part in step[1]]):
                state = step[2]
                told = self.told(step)
                known = better.get(state, self.best.get(state))
                if known is None or told[0] > known[0]:
                    better[state] = told
                    below = [grown[part] for part in step[1] if part in grown]
                    way = below[0] if below else {}
                    if state in way:
                        self.steep = (told[1] - way[state][1], told[2] - way[state][2])
                    ways[state] = {**way, state: told}
        self.best.update(better)
        return ways

    def is_tight(self, step):
        """Whether the step comes to the most that a reading of its state is worth."""
        return self.told(step)[0] == self.best[step[2]][0]


def climb_at_rate(steps):
    """The Climb by the RATE: each round that is steep by a fraction shows that the rate is greater."""
    climb = Climb(steps, (0, 1))
    while climb.steep is not None:
        gain, size = climb.steep
        climb = Climb(steps, lowest(gain, size))
    return climb


def rate(table):
    return climb_at_rate(steps_of(table)).fraction


def rate_paper(table):
    climb = climb_at_rate(steps_of(table))
    _, den = climb.fraction
    return {state: lowest(climb.best[state][0], den) for state in sorted(climb.best)}


def is_rate_paper(table, fraction, thing):
    steps = steps_of(table)
    if not has_all_states(table, steps, thing) or not all([is_fraction(thing[key]) for key in thing]):
        return False
    common = fraction[1]
    for key in thing:
        common = lcm(common, thing[key][1])
    scaled = {key: thing[key][0] * (common // thing[key][1]) for key in thing}
    less = fraction[0] * (common // fraction[1])
    return all([gain * common - less + sum([scaled[part] for part in states]) <= scaled[state]
                for _, states, state, gain in steps])


def least_way_back(leads, sizes, start):
    """The tuple (size, way) of the leads by which a mark leads to itself, with as few nodes as can be."""
    queue = [(0, start, ())]
    settled = {}
    while queue:
        size, mark, way = heappop(queue)
        if way and mark == start:
            return (size, way)
        if mark not in settled:
            settled[mark] = True
            for lead in leads.get(mark, []):
                more = 1 + sum([sizes[other] for other in lead[3]])
                heappush(queue, (size + more, lead[0], (*way, lead)))
    return None


def rate_round(table):
    steps = steps_of(table)
    climb = climb_at_rate(steps)
    if climb.fraction[0] == 0:
        return None
    # A context that is worth 0, the most that there is, consists of tight steps alone.
    tight = marked_steps([step for step in steps if climb.is_tight(step)])
    shown = shown_marks(tight)
    leads = mark_leads(tight, shown)
    sizes = {mark: size_of(shown[mark][0]) for mark in shown}
    found = []
    for mark in sorted(shown):
        back = least_way_back(leads, sizes, mark)
        if back is not None:
            found.append((*back, mark))
    _, way, (row, cheap) = min(found)
    return (*told_along(way, row, shown), (row[0], cheap))


def is_rate_round(table, thing):
    steps = steps_of(table)
    num, den = climb_at_rate(steps).fraction
    if num == 0 or not isinstance(thing, tuple) or len(thing) != 3:
        return False
    context, reading, state = thing
    if context is None or not is_context(table, context) or not is_reading(table, context, reading):
        return False
    if not is_state(table, state) or state not in {step[2] for step in steps}:
        return False
    if state[0] != reading[hole_of(context)]:
        return False
    led, gain = led_state(table, context, reading, state)
    return led == state and gain * den == num * size_of(context)
