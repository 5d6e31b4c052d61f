"""[31], with [9] and the words ahead of [31]: sure lots, and what shows that lots are sure or not."""

import itertools
import unittest

from pinsenough.enough import other_reading
from pinsenough.growth import growth
from pinsenough.made import made_kinds
from pinsenough.programs import size_of
from pinsenough.sure import clashing, is_sure, is_sure_paper, sure_paper
import brute
from brute import BARE, LEAVES, LINE, MIXED, PAIRS, UNREAD, any_values, exchanged, layered_tables, lively_tables, some_tables, spoil
from test_growth import TWO
from test_needs import MANY
from test_rounds import BOTH

NAMED = (2, (0, 1, 1), ((0, (), 0), (0, (), 1), (1, (0,), 0), (1, (1,), 1), (2, (0,), 0), (2, (1,), 0)))
STRAIGHT = (2, NAMED[1][:2], NAMED[2][:4])
# The two entries of sign 1 have the same part, but its kind is not made.
LOOSE = (3, (0, 1), ((0, (), 0), (1, (0,), 0), (1, (2,), 0), (1, (2,), 1)))
# Two readings of one kind come about only by a couple, had by two parts at once.
BESIDE = (4, (0, 1, 2), ((0, (), 0), (0, (), 1), (1, (0,), 2), (1, (1,), 3), (2, (2, 0), 0), (2, (3, 1), 0)))
TABLES = [NAMED, STRAIGHT, LOOSE, BESIDE, LINE, LEAVES, MIXED, PAIRS, BARE, UNREAD, TWO, BOTH, MANY, *some_tables(60),
          *lively_tables(80, 0, 4), *layered_tables(30)]


def sign_lots(table):
    signs = range(len(table[1]))
    return [lot for many in range(len(signs) + 1) for lot in itertools.combinations(signs, many)]


def clash(program, one, other, lot):
    return one != other and one[0] == other[0] and all(one[node] == other[node] for node, top in enumerate(brute.nodes_of(program))
                                                       if top[0] in lot)


def clashes_of(table, lot, size, most):
    """All clashes of the programs up to a size, the least programs first, a tuple of programs' sizes that were left out none."""
    for program in brute.some_programs(table, size, most):
        readings = brute.readings_of(table, program)
        for one, other in itertools.combinations(readings[:60], 2):
            if clash(program, one, other, lot):
                yield program, one, other


def slow_paper(table, lot, thing):
    """By the words of [31], each two entries in both orders, and each one beside itself."""
    if type(thing) is not tuple:
        return False
    for row in thing:
        if type(row) is not tuple or len(row) != 2 or any(type(kind) is not int or not 0 <= kind < table[0] for kind in row):
            return False
        if row[0] >= row[1]:
            return False
    if list(thing) != sorted(set(thing)):
        return False
    made = made_kinds(table)
    for (sign, parts, kind), (beside, others, second) in itertools.product(table[2], repeat=2):
        if sign == beside and all((low == high and low in made) or (min(low, high), max(low, high)) in thing for low, high in zip(parts, others)):
            if kind == second and parts != others:
                return False
            if kind != second and sign not in lot and (min(kind, second), max(kind, second)) not in thing:
                return False
    return True


def all_papers(table, lot):
    couples = list(itertools.combinations(range(table[0]), 2))
    return [thing for many in range(len(couples) + 1) for thing in itertools.combinations(couples, many) if slow_paper(table, lot, thing)]


def couples_seen(table, lot, size, most):
    """The unlike kinds that some small program has by two readings that agree at all nodes whose sign is in the lot."""
    found = set()
    for program in brute.some_programs(table, size, most):
        for one, other in itertools.combinations(brute.readings_of(table, program)[:40], 2):
            if one[0] != other[0] and all(one[node] == other[node] for node, top in enumerate(brute.nodes_of(program)) if top[0] in lot):
                found.add((one[0], other[0]))
    return found


class SureTest(unittest.TestCase):
    def test_papers(self):
        """The least paper lies in all others, and there is one exactly if the lot is sure."""
        seen = {}
        for table in TABLES:
            for lot in sign_lots(table)[::1 if len(table[1]) < 4 else 3]:
                told, papers = sure_paper(table, lot), all_papers(table, lot)
                self.assertIs(is_sure(table, lot), bool(papers))
                self.assertIs(clashing(table, lot) is None, bool(papers))
                if not papers:
                    self.assertIsNone(told)
                    continue
                self.assertEqual(told, papers[0])
                self.assertTrue(all(set(told) <= set(other) for other in papers))
                for other in papers:
                    self.assertIs(is_sure_paper(table, lot, other), True)
                seen[len(told)] = seen.get(len(told), 0) + 1
        self.assertTrue({0, 1, 2, 3} <= set(seen), seen)

    def test_couples_of_the_paper_are_had(self):
        """[9]: they are the couples of unlike kinds that one program can have by two readings that agree there."""
        full = 0
        for table in TABLES:
            for lot in sign_lots(table)[::2]:
                paper = sure_paper(table, lot)
                if paper is not None:
                    seen = couples_seen(table, lot, 6, 40)
                    self.assertLessEqual(seen, set(paper))
                    full += seen == set(paper) != set()
        self.assertGreater(full, 40)

    def test_clashing(self):
        sizes = {}
        for table in TABLES:
            for lot in sign_lots(table)[::1 if len(table[1]) < 4 else 3]:
                told = clashing(table, lot)
                first = next(clashes_of(table, lot, 5, 60), None)
                if told is None:
                    self.assertIsNone(first)
                    continue
                program, one, other = told
                self.assertTrue(brute.is_reading(table, program, one) and brute.is_reading(table, program, other))
                self.assertTrue(clash(program, one, other, lot) and one < other)
                if first is not None:
                    self.assertLessEqual(size_of(program), size_of(first[0]))
                if size_of(program) <= 5:
                    smaller = [row for size in range(1, size_of(program)) for row in brute.programs_of_size(table, size)]
                    self.assertFalse(any(clash(row, *two, lot) for row in smaller
                                         for two in itertools.combinations(brute.readings_of(table, row), 2)))
                sizes[size_of(program)] = sizes.get(size_of(program), 0) + 1
        self.assertTrue({2, 3, 4, 5} <= set(sizes), sizes)

    def test_greater_lots_are_sure_too(self):
        for table in TABLES[:60]:
            lots = sign_lots(table)
            sure = {lot: is_sure(table, lot) for lot in lots}
            self.assertIs(sure[lots[-1]], True)
            self.assertEqual(sure_paper(table, lots[-1]), ())
            for lot, other in itertools.product(lots, repeat=2):
                if set(lot) <= set(other) and sure[lot]:
                    self.assertIs(sure[other], True)

    def test_doubling_needs_signs(self):
        """A twofold round makes readings of one kind unlike: so the lot () is not sure then."""
        seen = 0
        for table in TABLES:
            if growth(table) == "doubling":
                self.assertIs(is_sure(table, ()), False)
                seen += 1
        self.assertGreater(seen, 20)

    def test_examples(self):
        self.assertEqual([is_sure(NAMED, ()), clashing(NAMED, ()), sure_paper(NAMED, ())], [False, ((2, (0,)), (0, 0), (0, 1)), None])
        self.assertEqual([sure_paper(NAMED, (0,)), sure_paper(NAMED, (1, 2))], [(), None])
        self.assertEqual([is_sure(STRAIGHT, ()), sure_paper(STRAIGHT, ()), is_sure_paper(STRAIGHT, (), ())], [True, ((0, 1),), False])
        self.assertEqual([is_sure(BARE, ()), clashing(BARE, ()), sure_paper(BARE, ()), is_sure_paper(BARE, (), ())], [True, None, (), True])

    def test_kinds_that_are_not_made(self):
        self.assertEqual([is_sure(LOOSE, ()), sure_paper(LOOSE, ()), clashing(LOOSE, ())], [True, (), None])
        made = (3, LOOSE[1], (*LOOSE[2][:1], (0, (), 2), *LOOSE[2][1:]))
        self.assertEqual([is_sure(made, ()), is_sure(made, (1,)), clashing(made, (1,))[0]], [False, False, (1, (0,))])
        # A couple of a kind that is not made may stand in a paper, and is asked for then.
        self.assertEqual([is_sure_paper(LOOSE, (), ((0, 2),)), is_sure_paper(LOOSE, (), ((1, 2),))], [False, True])
        self.assertEqual([slow_paper(LOOSE, (), ((0, 2),)), slow_paper(LOOSE, (), ((1, 2),))], [False, True])
        lesser = (2, (0, 1), ((0, (), 1), (1, (0,), 1), (1, (1,), 1)))
        for thing, wanted in (((), True), (((0, 1),), False)):
            self.assertEqual([is_sure_paper(lesser, (), thing), slow_paper(lesser, (), thing)], [wanted, wanted])

    def test_the_same_parts(self):
        """Of two entries with the same parts just the wholes are unlike: at the top the kind is written, below it is not."""
        table = (2, (0, 1, 1), ((0, (), 0), (1, (0,), 0), (1, (0,), 1), (2, (0,), 0), (2, (1,), 1)))
        self.assertEqual([is_sure(table, ()), sure_paper(table, ()), sure_paper(table, (1,))], [True, ((0, 1),), ()])
        merged = (2, table[1], (*table[2][:4], (2, (1,), 0)))
        self.assertEqual([is_sure(merged, ()), is_sure(merged, (1,)), is_sure(merged, (2,))], [False, True, False])
        self.assertEqual(clashing(merged, (2,)), ((2, (1, (0,))), (0, 0, 0), (0, 1, 0)))

    def test_parts_together(self):
        self.assertEqual([is_sure(BESIDE, ()), clashing(BESIDE, ())], [False, ((2, (1, (0,)), (0,)), (0, 2, 0, 0), (0, 3, 1, 1))])
        self.assertEqual([is_sure(BESIDE, (0,)), is_sure(BESIDE, (1,)), is_sure(BESIDE, (2,))], [True, True, False])
        self.assertEqual([sure_paper(BESIDE, (1,)), sure_paper(BESIDE, (0,))], [((0, 1),), ()])

    def test_a_clash_above_forty(self):
        """One couple leads to the next one by two parts that both have it, and just the last of six is merged."""
        turn = tuple((1, (kind, kind), (kind + 1) % 4) for kind in range(4))
        table = (4, (0, 2, 2, 1), ((0, (), 0), (0, (), 1), *turn, (2, (0, 0), 0), (2, (3, 3), 2), (3, (1,), 0), (3, (3,), 0)))
        program, one, other = clashing(table, ())
        self.assertEqual([size_of(program), clash(program, one, other, ()), one < other], [64, True, True])
        self.assertTrue(brute.is_reading(table, program, one) and brute.is_reading(table, program, other))
        self.assertEqual(other_reading(table, program, one, (0,)), other)
        self.assertEqual([clashing(table, (2,)), sure_paper(table, (2,))], [None, ((0, 1), (0, 3), (1, 2), (2, 3))])

    def test_any_value(self):
        for table in (NAMED, STRAIGHT, LINE, BARE, LOOSE):
            for lot in sign_lots(table)[:3]:
                for value in any_values():
                    self.assertIs(is_sure_paper(table, lot, value), slow_paper(table, lot, value))

    def test_papers_that_are_none(self):
        free = (3, (0,), ((0, (), 0), (0, (), 1)))
        self.assertEqual([sure_paper(free, ()), sure_paper(free, (0,))], [((0, 1),), ()])
        for thing in (((0, 1),), ((0, 1), (0, 2)), ((0, 1), (1, 2)), ((0, 1), (0, 2), (1, 2))):
            self.assertIs(is_sure_paper(free, (), thing), True)
        for thing in (((1, 0),), ((0, 1), (0, 1)), ((0, 2), (0, 1)), ((0, 1), (2, 2)), ((0, 1), (0, 3)), ((0, 1), (-1, 2)), [(0, 1)], ([0, 1],),
                      ((False, 1),), ((0, True),), ((0, 1), (0, 1, 2)), ((0, 1), ()), ((0, 1), 0), ((0, 1), None), (0, 1), {(0, 1): 0}, ((0, 2),), (), None):
            self.assertIs(is_sure_paper(free, (), thing), False)
        self.assertIs(is_sure_paper(free, (0,), ()), True)

    def test_exchanged(self):
        right = 0
        for table in (STRAIGHT, NAMED, LINE, MANY, *TABLES[20:40]):
            for lot in sign_lots(table)[-3:]:
                paper = sure_paper(table, lot)
                if paper is not None:
                    for value in exchanged(paper):
                        told = is_sure_paper(table, lot, value)
                        self.assertIs(told, slow_paper(table, lot, value))
                        right += told
        self.assertGreater(right, 30)

    def test_called_twice(self):
        lot, paper = (0,), ((0, 1),)
        for call in (lambda: is_sure(NAMED, lot), lambda: clashing(NAMED, ()), lambda: sure_paper(STRAIGHT, ()),
                     lambda: is_sure_paper(STRAIGHT, (), paper), lambda: clashing(MANY, ())):
            first, again = call(), call()
            spoil(first)
            self.assertEqual(repr(call()), repr(again))
        self.assertEqual([lot, paper], [(0,), ((0, 1),)])


if __name__ == "__main__":
    unittest.main()
