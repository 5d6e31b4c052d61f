"""Lots of signs at which kinds are written, and whether no two readings of a program agree there."""

from itertools import combinations

from pinsenough.couples import apart_steps, is_twin, shown_marks
from pinsenough.forms import are_below, is_ascending
from pinsenough.made import made_kinds
from pinsenough.places import couple_of
from pinsenough.programs import size_of


def is_sure(table, lot):
    return sure_paper(table, lot) is not None


def clashing(table, lot):
    # A couple that is not apart may be had by one reading twice, which agrees with itself everywhere.
    steps = [step for step in apart_steps(table) if step[0] not in lot or is_twin(step[2][0])]
    shown = shown_marks(steps)
    clashes = [(size_of(shown[mark][0]), mark) for mark in shown if mark[1] and is_twin(mark[0])]
    if not clashes:
        return None
    program, *readings = shown[min(clashes)[1]]
    return (program, *sorted(readings))


def entry_couples(table):
    """The tuples (sign, couples of the parts, couple of the wholes) of all two entries of one sign.

    Those with a part that has in both the same kind, but one that is not made, are left out.
    """
    made = made_kinds(table)
    found = []
    for one, other in combinations(list(table[2]), 2):
        parts = [couple_of(low, high) for low, high in zip(one[1], other[1])]
        if one[0] == other[0] and all([part[0] in made or not is_twin(part) for part in parts]):
            found.append((one[0], parts, couple_of(one[2], other[2])))
    return found


def lacking(couples, lot, paper):
    """The couples that a paper lacks for what it has; one that is a kind twice is of readings that clash."""
    found = {}
    for sign, parts, whole in couples:
        if all([is_twin(part) or part in paper for part in parts]) and whole not in paper:
            if sign not in lot or is_twin(whole):
                found[whole] = True
    return sorted(found)


def is_couple(table, thing):
    return are_below(thing, table[0]) and len(thing) == 2 and thing[0] < thing[1]


def is_sure_paper(table, lot, thing):
    if not isinstance(thing, tuple) or not all([is_couple(table, couple) for couple in thing]):
        return False
    return is_ascending(thing) and not lacking(entry_couples(table), lot, thing)


def sure_paper(table, lot):
    couples = entry_couples(table)
    paper = ()
    more = lacking(couples, lot, paper)
    while more and not any([is_twin(couple) for couple in more]):
        paper = tuple(sorted([*paper, *more]))
        more = lacking(couples, lot, paper)
    return None if more else paper
