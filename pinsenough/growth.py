"""How the numbers of readings grow with the size of programs, and what shows it."""

from pinsenough.rounds import is_ranks, is_shifting, is_stays, is_twofold, ranks_of, shifting_round, stays_of
from pinsenough.rounds import twofold_round


def growth(table):
    return growth_paper(table)[0]


def growth_paper(table):
    twofold = twofold_round(table)
    if twofold is not None:
        return ("doubling", twofold)
    shifting = shifting_round(table)
    if shifting is not None:
        return ("powers", shifting, ranks_of(table))
    return ("bounded", ranks_of(table), stays_of(table))


def is_growth_paper(table, thing):
    if not isinstance(thing, tuple) or not thing:
        return False
    if thing[0] == "doubling":
        return len(thing) == 2 and is_twofold(table, thing[1])
    if thing[0] == "powers":
        return len(thing) == 3 and is_shifting(table, thing[1]) and is_ranks(table, thing[2])
    return thing[0] == "bounded" and len(thing) == 3 and is_ranks(table, thing[1]) and is_stays(table, thing[2])
