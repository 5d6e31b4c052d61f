"""Least lots of signs that are sure, and the nodes of a program that have them."""

from pinsenough.needs import least_lots, lots_of
from pinsenough.programs import shape_of
from pinsenough.sure import is_sure


def least_sure_lots(table):
    return least_lots([lot for lot in lots_of(list(range(len(table[1])))) if is_sure(table, lot)])


def written_nodes(program, lot):
    return tuple([node for node, (sign, _) in enumerate(shape_of(program)) if node == 0 or sign in lot])


def least_by_lots(table, program):
    return min([(len(written_nodes(program, lot)), lot) for lot in least_sure_lots(table)])
