"""[29], with [2] and the words ahead of [29]: places that are enough for all readings."""

import itertools
import random
import unittest

from pinsenough.enough import are_enough
from pinsenough.errors import NoReading, TooMany
from pinsenough.places import are_for_all, least_places, unparted
from pinsenough.programs import parts_at
from pinsenough.readings import readings_many, readings_of, unread_node
import brute
from brute import (BARE, COUNTING, LEAVES, LINE, MIXED, PAIRS, UNREAD, euclid, layered_tables, lively_tables, nest, some_tables, spoil)
from test_growth import TWO
from test_needs import MANY, leafy
from test_rounds import BOTH

TABLES = [LINE, LEAVES, MIXED, PAIRS, UNREAD, TWO, BOTH, MANY, COUNTING, *some_tables(30), *lively_tables(60, 0, 4), *layered_tables(30)]


def slow_unparted(readings, places):
    pairs = [(one, other) for one, other in itertools.combinations(readings, 2) if all(one[node] == other[node] for node in places)]
    return min(pairs, default=None)


def slow_least(readings):
    """All choices of places gone through, the fewest first."""
    nodes = range(len(readings[0]))
    for many in range(len(nodes) + 1):
        for places in itertools.combinations(nodes, many):
            if len({tuple(reading[node] for node in places) for reading in readings}) == len(readings):
                return many


def cases(size=6, most=25):
    for table in TABLES:
        for program in brute.some_programs(table, size, most):
            readings = brute.readings_of(table, program)
            if readings and len(readings) <= 60:
                yield table, program, readings


class PlacesTest(unittest.TestCase):
    def test_for_all_and_unparted(self):
        rng = random.Random(29)
        seen = {True: 0, False: 0}
        for table, program, readings in cases():
            nodes = range(len(readings[0]))
            for places in ((), tuple(nodes), tuple(rng.sample(nodes, 1)), tuple(sorted(rng.sample(nodes, rng.randint(0, len(nodes)))))):
                wanted = slow_unparted(readings, places)
                self.assertEqual(unparted(table, program, places), wanted)
                self.assertIs(are_for_all(table, program, places), wanted is None)
                if len(readings) <= 12:
                    self.assertEqual(wanted is None, all(are_enough(table, program, reading, places) for reading in readings))
                seen[wanted is None] += 1
            self.assertIs(are_for_all(table, program, tuple(nodes)), True)
            self.assertIs(are_for_all(table, program, ()), len(readings) == 1)
        self.assertGreater(min(seen.values()), 400)

    def test_least_places(self):
        seen = {}
        for table, program, readings in cases(7, 30):
            if len(readings) > 24:
                with self.assertRaises(TooMany) as told:
                    least_places(table, program)
                self.assertEqual(told.exception.most, 24)
                continue
            places = least_places(table, program)
            self.assertEqual(places, tuple(sorted(set(places))))
            self.assertIs(are_for_all(table, program, places), True)
            self.assertEqual(len(places), slow_least(readings))
            self.assertLess(len(places), len(readings))
            self.assertEqual(places == (), len(readings) == 1)
            seen[len(places)] = seen.get(len(places), 0) + 1
        self.assertTrue({0, 1, 2, 3, 4} <= set(seen), seen)

    def test_least_places_of_greater_programs(self):
        rng = random.Random(2929)
        seen = 0
        for table in [BOTH, COUNTING, MANY, *lively_tables(600, 900, 4), *layered_tables(150, 900)]:
            for size in (9, 11, 13, 15):
                program = brute.some_program(table, size, rng)
                many = sum(readings_many(table, program, {})) if program else 0
                if 8 < many <= 24:
                    readings = readings_of(table, program, {})
                    places = least_places(table, program)
                    self.assertIs(are_for_all(table, program, places), True)
                    if 1 < len(places) < 6:
                        self.assertEqual(len(places), slow_least(readings))
                        seen += 1
                    # At least, none of them can be left out.
                    for node in places:
                        self.assertIs(are_for_all(table, program, tuple(other for other in places if other != node)), False)
        self.assertGreater(seen, 50)

    def test_three_of_one_node(self):
        """Three kinds, each two of which differ by two nodes of three, need two places: a greedy choice is not enough."""
        leaf = tuple((0, (), kind) for kind in range(4))
        table = (4, (0, 2), (*leaf, *((1, (one, other), (one + other) % 4) for one in range(4) for other in range(2))))
        program = (1, (1, (0,), (0,)), (0,))
        readings = readings_of(table, program, {})
        self.assertEqual(len(readings), 16)
        self.assertEqual([len(least_places(table, program)), slow_least(readings)], [3, 3])

    def test_examples(self):
        program = (1, (1, (1, (0,))))
        self.assertEqual([are_for_all(LINE, program, (0,)), unparted(LINE, program, (0,)), least_places(LINE, program)],
                         [False, ((1, 0, 0, 0), (1, 1, 0, 0)), (0, 1, 2)])
        self.assertEqual([least_places(LINE, (0,)), unparted(LINE, (0,), ()), are_for_all(LINE, (0,), ())], [(), None, True])
        self.assertEqual([unparted(LEAVES, (0,), ()), unparted(LEAVES, (0,), (0,)), least_places(LEAVES, (0,))], [((0,), (1,)), None, (0,)])

    def test_no_reading(self):
        for table, program, node in ((MIXED, (2, (0,), (0,)), 0), (MIXED, (1, (2, (0,), (0,))), 1), (UNREAD, (0,), 0), (UNREAD, (1, (0,), (0,)), 1)):
            self.assertEqual(unread_node(table, program), node)
            for call in (lambda: are_for_all(table, program, ()), lambda: unparted(table, program, (0,)), lambda: least_places(table, program)):
                for _ in range(2):
                    with self.assertRaises(NoReading) as told:
                        call()
                    self.assertEqual(told.exception.node, node)

    def test_just_so_many_and_more(self):
        program = euclid(3091, 1909)
        nodes = tuple(range(len(brute.nodes_of(program))))
        self.assertEqual([are_for_all(COUNTING, program, nodes), are_for_all(COUNTING, program, nodes[:1])], [True, False])
        one, other = unparted(COUNTING, program, ())
        self.assertEqual([one, other], readings_of(COUNTING, program, {})[:2])
        for call in (lambda row: are_for_all(COUNTING, row, nodes), lambda row: unparted(COUNTING, row, ())):
            with self.assertRaises(TooMany) as told:
                call(euclid(3091, 1910))
            self.assertEqual(told.exception.most, 5000)
        self.assertTrue(are_for_all(COUNTING, euclid(11, 13), least_places(COUNTING, euclid(11, 13))))
        for row in (euclid(12, 13), program, euclid(1910, 3091)):
            with self.assertRaises(TooMany) as told:
                least_places(COUNTING, row)
            self.assertEqual(told.exception.most, 24)

    def test_forty_nodes(self):
        chain = nest((0,), 23, lambda part: (1, part))
        self.assertEqual(least_places(LINE, chain), tuple(range(23)))
        self.assertEqual(least_places(LEAVES, leafy(4)), tuple(node for node in range(7) if parts_at(leafy(4), node) == ()))
        long = nest((0,), 39, lambda part: (1, part))
        self.assertEqual(unparted(LINE, long, (3,)), ((0,) * 40, (1,) + (0,) * 39))
        self.assertIs(are_for_all(LINE, long, tuple(range(39))), True)
        self.assertIs(are_for_all(LINE, long, tuple(range(38))), False)

    def test_many_kinds_at_once(self):
        """Programs of forty nodes with many readings, also such as need many places at unlike parts."""
        rng = random.Random(4)
        seen = 0
        for table in lively_tables(250, 3000, 4):
            program = brute.some_program(table, 40, rng)
            if program and 2 <= sum(readings_many(table, program, {})) <= 24:
                places = least_places(table, program)
                self.assertIs(are_for_all(table, program, places), True)
                for node in places:
                    self.assertIs(are_for_all(table, program, tuple(other for other in places if other != node)), False)
                seen += 1
        self.assertGreater(seen, 10)

    def test_bare(self):
        """A table without signs has no programs; one with a sign without entries has no readings."""
        self.assertEqual(brute.some_programs(BARE, 4), [])
        with self.assertRaises(NoReading):
            least_places((1, (0,), ()), (0,))

    def test_called_twice(self):
        program = (1, (1, (1, (0,))))
        places = (0, 2)
        for call in (lambda: are_for_all(LINE, program, places), lambda: unparted(LINE, program, places), lambda: least_places(LINE, program),
                     lambda: least_places(MANY, (2, (1,)))):
            first, again = call(), call()
            spoil(first)
            self.assertEqual(repr(call()), repr(again))
        self.assertEqual([program, places], [(1, (1, (1, (0,)))), (0, 2)])


if __name__ == "__main__":
    unittest.main()
