"""Rounds that make readings many, and what shows that there are none."""

from pinsenough.couples import apart_steps, had_couples, is_twin, joined_readings, leads_of, plain_steps, shown_marks
from pinsenough.forms import are_below, is_ascending, is_context, is_integer, is_reading
from pinsenough.made import least_sizes, made_kinds
from pinsenough.programs import hole_of


def mark_leads(steps, met):
    """From each mark to its leads (whole, sign, place, others), the marks of the other parts being in met."""
    leads = {}
    for sign, parts, whole in steps:
        for place, part in enumerate(parts):
            others = (*parts[:place], *parts[place + 1:])
            if all([other in met for other in others]):
                leads.setdefault(part, []).append((whole, sign, place, others))
    return leads


def arrivals(leads, start):
    """From each mark, but start, that start comes to, to (the mark ahead of it, the lead), by few leads."""
    came = {}
    layer = [start]
    while layer:
        behind = []
        for mark in layer:
            for lead in leads.get(mark, []):
                if lead[0] not in came and lead[0] != start:
                    came[lead[0]] = (mark, lead)
                    behind.append(lead[0])
        layer = behind
    return came


def way_between(leads, start, goal):
    """The leads by which start comes to goal, another mark, in order; None if it does not."""
    came = arrivals(leads, start)
    if goal not in came:
        return None
    way = []
    mark = goal
    while mark != start:
        mark, lead = came[mark]
        way.append(lead)
    way.reverse()
    return way


def told_along(way, row, found):
    """The (context, *readings) that has the row at its hole and a sign for each lead of the way."""
    told = (None, *[(kind,) for kind in row])
    for whole, sign, place, others in way:
        parts = [found[other] for other in others]
        parts.insert(place, told)
        context = (sign, *[part[0] for part in parts])
        told = (context, *joined_readings(whole[0], parts))
    return told


def unlike_couples(table):
    """The ascending list of the couples of unlike made kinds."""
    made = made_kinds(table)
    return [(one, other) for one in made for other in made if one != other]


def twofold_round(table):
    steps = apart_steps(table)
    found = shown_marks(steps)
    leads = mark_leads(steps, found)
    for kind in made_kinds(table):
        row = (kind, kind)
        way = way_between(leads, (row, False), (row, True))
        if way is not None:
            return told_along(way, row, found)
    return None


def shifting_round(table):
    steps = plain_steps(table, 3)
    found = shown_marks(steps)
    leads = mark_leads(steps, found)
    for low, high in unlike_couples(table):
        way = way_between(leads, ((low, high, high), False), ((low, high, low), False))
        if way is not None:
            return told_along(way, (low, high, high), found)
    return None


def are_readings(table, context, many, readings):
    """Whether context is one that is not the hole alone, and all readings, so many, are such of it."""
    if context is None or not is_context(table, context) or len(readings) != many:
        return False
    return all([is_reading(table, context, reading) for reading in readings])


def ends_of(context, readings):
    """For each reading of a context the couple of the kinds of the hole and of the top."""
    hole = hole_of(context)
    return [(reading[hole], reading[0]) for reading in readings]


def is_twofold(table, thing):
    if not isinstance(thing, tuple) or not thing or not are_readings(table, thing[0], 2, thing[1:]):
        return False
    one, other = ends_of(thing[0], thing[1:])
    return one == other and is_twin(one) and one[0] in made_kinds(table) and thing[1] != thing[2]


def is_shifting(table, thing):
    if not isinstance(thing, tuple) or not thing or not are_readings(table, thing[0], 3, thing[1:]):
        return False
    one, other, between = ends_of(thing[0], thing[1:])
    if not is_twin(one) or not is_twin(other) or between != (other[0], one[0]):
        return False
    return (one[0], other[0]) in unlike_couples(table)


def forks_of(table):
    """The list of the tuples (couple, other, forks) for all couples and those to which they lead."""
    forks = []
    for couple, other, apart in leads_of(table):
        forks.append((couple, other, is_twin(couple) and (apart or not is_twin(other))))
    return forks


def ranks_of(table):
    forks = forks_of(table)
    ranks = {couple: 0 for couple in had_couples(table)}
    changed = True
    while changed:
        changed = False
        for couple, other, is_fork in forks:
            least = ranks[couple] + int(is_fork)
            # On a way that comes to no couple twice there are fewer forks than couples.
            if least >= len(ranks):
                return None
            if least > ranks[other]:
                ranks[other] = least
                changed = True
    return ranks


def is_ranks(table, thing):
    had = had_couples(table)
    if not isinstance(thing, dict) or len(thing) != len(had):
        return False
    if not all([are_below(key, table[0]) and key in had and is_integer(thing[key]) for key in thing]):
        return False
    return all([thing[couple] + int(is_fork) <= thing[other] for couple, other, is_fork in forks_of(table)])


def triple_leads(table):
    steps = plain_steps(table, 3)
    return mark_leads(steps, least_sizes(steps))


def stays_of(table):
    leads = triple_leads(table)
    stays = {}
    for low, high in unlike_couples(table):
        start = ((low, high, high), False)
        came = arrivals(leads, start)
        if ((low, high, low), False) in came:
            return None
        stays[(low, high)] = sorted([triple for triple, _ in [start, *came]])
    return stays


def is_stay(table, leads, couple, thing):
    """Whether thing, any value, is what STAYS may have for a couple."""
    if not isinstance(thing, list) or not all([are_below(row, table[0]) and len(row) == 3 for row in thing]):
        return False
    low, high = couple
    if not is_ascending(thing) or (low, high, high) not in thing or (low, high, low) in thing:
        return False
    held = {triple: True for triple in thing}
    return all([lead[0][0] in held for triple in thing for lead in leads.get((triple, False), [])])


def is_stays(table, thing):
    couples = unlike_couples(table)
    if not isinstance(thing, dict) or len(thing) != len(couples):
        return False
    if not all([are_below(key, table[0]) and key in couples for key in thing]):
        return False
    leads = triple_leads(table)
    return all([is_stay(table, leads, key, thing[key]) for key in thing])
