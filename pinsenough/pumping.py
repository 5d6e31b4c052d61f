"""Contexts that are filled with themselves, and the readings that come of it."""

from pinsenough.programs import filled, hole_of


def piled(context, many):
    pile = None
    for _ in range(many):
        pile = filled(context, pile)
    return pile


def laid_in(context, reading, inner):
    hole = hole_of(context)
    return (*reading[:hole], *inner, *reading[hole + 1:])


def pumped(found, many, program, reading):
    context = found[0]
    hole = hole_of(context)
    readings = [reading]
    for _ in range(many):
        outer = []
        for told in found[1:]:
            outer.extend([laid_in(context, told, inner) for inner in readings if inner[0] == told[hole]])
        readings = outer
    return (filled(piled(context, many), program), sorted(readings))
