"""[32], with [9]: least sure lots, and the nodes that have their signs."""

import unittest

from pinsenough.enough import are_enough
from pinsenough.places import are_for_all
from pinsenough.readings import readings_many
from pinsenough.sure import is_sure
from pinsenough.sureleast import least_by_lots, least_sure_lots, written_nodes
import brute
from brute import BARE, LEAVES, LINE, MIXED, PAIRS, UNREAD, layered_tables, lively_tables, nest, some_tables, spoil
from test_growth import TWO
from test_needs import MANY
from test_rounds import BOTH
from test_sure import BESIDE, LOOSE, NAMED, STRAIGHT, sign_lots

TABLES = [NAMED, STRAIGHT, LOOSE, BESIDE, LINE, LEAVES, MIXED, PAIRS, BARE, UNREAD, TWO, BOTH, MANY, *some_tables(60),
          *lively_tables(80, 0, 4), *layered_tables(40)]


def slow_least(table):
    sure = [lot for lot in sign_lots(table) if is_sure(table, lot)]
    return sorted(lot for lot in sure if not any(set(other) < set(lot) for other in sure))


class SureLeastTest(unittest.TestCase):
    def test_least_sure_lots(self):
        seen = {}
        for table in TABLES:
            lots = least_sure_lots(table)
            self.assertEqual(lots, slow_least(table))
            for lot in sign_lots(table):
                self.assertIs(is_sure(table, lot), any(set(least) <= set(lot) for least in lots))
            seen[len(lots)] = seen.get(len(lots), 0) + 1
        self.assertTrue({1, 2} <= set(seen), seen)

    def test_written_nodes(self):
        for table in TABLES[:40]:
            for program in brute.some_programs(table, 6, 20):
                for lot in sign_lots(table)[:8]:
                    wanted = tuple(node for node, top in enumerate(brute.nodes_of(program)) if node == 0 or top[0] in lot)
                    self.assertEqual(written_nodes(program, lot), wanted)

    def test_enough_if_the_lot_is_sure(self):
        """[9], both ways: a lot that is not sure is not enough for some reading."""
        short = 0
        for table in TABLES[::3]:
            lots = sign_lots(table)[:16]
            missed = {lot: False for lot in lots}
            for program in brute.some_programs(table, 6, 30):
                readings = brute.readings_of(table, program)
                for lot in lots if 0 < len(readings) < 40 else []:
                    places = written_nodes(program, lot)
                    told = all(are_enough(table, program, reading, places) for reading in readings[:10])
                    if is_sure(table, lot):
                        self.assertIs(are_for_all(table, program, places), True)
                        self.assertIs(told, True)
                    missed[lot] = missed[lot] or not told
            short += sum(missed[lot] for lot in lots)
        self.assertGreater(short, 40)

    def test_least_by_lots(self):
        others = 0
        for table in TABLES:
            lots = least_sure_lots(table)
            for program in brute.some_programs(table, 5, 12):
                wanted = min((sum(node == 0 or top[0] in lot for node, top in enumerate(brute.nodes_of(program))), lot) for lot in lots)
                self.assertEqual(least_by_lots(table, program), wanted)
                others += wanted[1] != lots[0]
        self.assertGreater(others, 20)

    def test_examples(self):
        self.assertEqual([least_sure_lots(NAMED), least_sure_lots(STRAIGHT), least_sure_lots(BESIDE)], [[(0,)], [()], [(0,), (1,)]])
        self.assertEqual([least_sure_lots(BARE), least_sure_lots((3, (), ())), least_sure_lots((1, (0,), ((0, (), 0),)))], [[()], [()], [()]])
        program = (2, (1, (1, (0,))))
        self.assertEqual([written_nodes(program, (0,)), least_by_lots(NAMED, program)], [(0, 3), (2, (0,))])
        self.assertEqual([written_nodes(program, ()), written_nodes(program, (0, 1, 2)), written_nodes((0,), (0,))], [(0,), (0, 1, 2, 3), (0,)])

    def test_a_tie(self):
        """Of lots with as many nodes the least one is told."""
        table = (2, (0, 0, 1), ((0, (), 0), (0, (), 1), (2, (0,), 0), (2, (1,), 0)))
        self.assertEqual([least_sure_lots(table), least_by_lots(table, (2, (0,))), least_by_lots(table, (0,))], [[(0,)], (2, (0,)), (1, (0,))])
        self.assertEqual(least_by_lots(BESIDE, (2, (1, (0,)), (0,))), (2, (1,)))
        self.assertEqual(least_by_lots(BESIDE, (1, (0,))), (1, (1,)))
        self.assertEqual(least_by_lots(BESIDE, (2, (1, (0,)), (2, (1, (0,)), (0,)))), (3, (1,)))
        self.assertEqual(least_by_lots(BESIDE, (0,)), (1, (0,)))

    def test_six_signs_and_forty_nodes(self):
        entries = tuple(sorted((sign, (kind,) * many, (kind + sign) % 4) for sign, many in enumerate((0, 1, 1, 2, 2, 2)) for kind in range(4)))
        table = (4, (0, 1, 1, 2, 2, 2), entries)
        self.assertEqual([len(entries), least_sure_lots(table)], [24, [()]])
        merged = (4, table[1], tuple(sorted({*entries, (1, (0,), 3), (2, (3,), 3), (3, (2, 2), 0)})))
        self.assertEqual(least_sure_lots(merged), slow_least(merged))
        program = nest((0,), 39, lambda part: (1, part))
        many, lot = least_by_lots(merged, program)
        self.assertEqual([many, lot in least_sure_lots(merged)], [len(written_nodes(program, lot)), True])
        deep = nest((0,), 1500, lambda part: (1, part))
        self.assertEqual([written_nodes(deep, (0,)), len(written_nodes(deep, (1,)))], [(0, 1500), 1500])

    def test_no_reading_is_asked_for(self):
        """A program without a reading has nodes, too."""
        self.assertEqual(sum(readings_many(UNREAD, (1, (0,), (0,)), {})), 0)
        self.assertEqual(least_by_lots(UNREAD, (1, (0,), (0,))), (1, ()))

    def test_called_twice(self):
        program, lot = (2, (1, (1, (0,)))), (0,)
        for call in (lambda: least_sure_lots(NAMED), lambda: written_nodes(program, lot), lambda: least_by_lots(NAMED, program),
                     lambda: least_sure_lots(MANY)):
            first, again = call(), call()
            spoil(first)
            self.assertEqual(repr(call()), repr(again))
        self.assertEqual([program, lot], [(2, (1, (1, (0,)))), (0,)])


if __name__ == "__main__":
    unittest.main()
