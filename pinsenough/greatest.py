"""The greatest need of all readings of all programs, and what shows that there is no greater one."""

from pinsenough.errors import Doubling
from pinsenough.forms import is_integer
from pinsenough.programs import size_of
from pinsenough.rounds import twofold_round
from pinsenough.states import has_all_states, shown_states, steps_of


def bounded_steps(table):
    """All steps of a table; Doubling if needs grow without bound."""
    steps = steps_of(table)
    found = twofold_round(table)
    if found is not None:
        raise Doubling(found)
    return steps


def risen(step, heights_of):
    """What a step, its states having these heights, leads up to."""
    _, states, _, gain = step
    return gain + sum([heights_of[state] for state in states])


def least_heights(steps):
    """From each state to the greatest need that comes about by the steps, no needs being without bound."""
    found = {}
    changed = True
    while changed:
        changed = False
        for step in steps:
            if all([state in found for state in step[1]]):
                height = risen(step, found)
                if step[2] not in found or found[step[2]] < height:
                    found[step[2]] = height
                    changed = True
    return {state: found[state] for state in sorted(found)}


def greatest_need(table):
    return max(list(heights(table).values()), default=0)


def neediest(table):
    steps = bounded_steps(table)
    found = least_heights(steps)
    if not found:
        return None
    # A reading has the greatest need of its state only if the readings at all its nodes have that of theirs.
    steep = [step for step in steps if risen(step, found) == found[step[2]]]
    most = max(list(found.values()))
    shown = shown_states(steep)
    sizes = [(size_of(shown[state][0]), state) for state in shown if found[state] == most]
    return shown[min(sizes)[1]]


def heights(table):
    return least_heights(bounded_steps(table))


def is_height_paper(table, thing):
    steps = steps_of(table)
    if not has_all_states(table, steps, thing) or not all([is_integer(thing[key]) for key in thing]):
        return False
    return all([risen(step, thing) <= thing[step[2]] for step in steps])
