"""[24], with [5] and LOT, COST, CHEAP, NEED, GAIN of [2]."""

import random
import unittest

from pinsenough.enough import are_enough
from pinsenough.errors import NoReading
from pinsenough.leastpins import least_pins
from pinsenough.needs import costs, gains, greatest_of, need, need_told
from pinsenough.programs import reading_at
from pinsenough.readings import reading_by, readings_many, readings_of, unread_node
import brute
from brute import LEAVES, LINE, MIXED, PAIRS, UNREAD, layered_tables, lively_tables, nest, some_tables, spoil

# One kind alone, so that the lot of all others is ().
SINGLE = (1, (0, 2), ((0, (), 0), (1, (0, 0), 0)))
MANY = (4, (0, 0, 1, 2), ((0, (), 0), (0, (), 1), (1, (), 2), (1, (), 3), (2, (0,), 1), (2, (0,), 2), (2, (1,), 2), (2, (2,), 0),
                          (2, (2,), 3), (2, (3,), 3), (3, (0, 1), 3), (3, (0, 2), 0), (3, (1, 2), 0), (3, (1, 2), 3),
                          (3, (2, 2), 1), (3, (3, 0), 2), (3, (3, 3), 2)))


def leafy(leaves):
    """A program of LEAVES with so many leaves."""
    return nest((0,), leaves - 1, lambda part: (1, part, (0,)))


def cases(tables, size=5, most=15, each=6):
    for table in tables:
        for program in brute.some_programs(table, size, most):
            readings = brute.readings_of(table, program)
            for reading in readings[:each]:
                yield table, program, readings, reading


def slow_gains(table, program, reading):
    """For each node its need less those at the tops of its parts, all told by going through all places."""
    def need_at(node):
        top = brute.nodes_of(program)[node]
        return brute.costs_of(table, brute.readings_of(table, top), reading_at(program, reading, node))[()]

    told = []
    for node, top in enumerate(brute.nodes_of(program)):
        behind, parts = node + 1, []
        for part in top[1:]:
            parts.append(behind)
            behind += len(brute.nodes_of(part))
        told.append(need_at(node) - sum(need_at(part) for part in parts))
    return told


class NeedsTest(unittest.TestCase):
    def test_costs_against_the_definition(self):
        seen = {}
        for table, program, readings, reading in cases([MANY, *some_tables(120), *lively_tables(60, 0, 4)]):
            told = costs(table, program, reading)
            wanted = brute.costs_of(table, readings, reading)
            self.assertEqual(list(told.items()), list(wanted.items()))
            self.assertEqual(need(table, program, reading), wanted[()])
            self.assertEqual(need_told(table, program, reading), wanted[max(wanted, key=len)])
            self.assertTrue(all(wanted[()] - cost in (0, 1) for cost in told.values()))
            key = (wanted[()], min(wanted.values()))
            seen[key] = seen.get(key, 0) + 1
        self.assertGreater(min(seen.get(key, 0) for key in ((0, 0), (1, 0), (1, 1), (2, 1), (2, 2))), 5)

    def test_gains(self):
        seen = set()
        for table, program, readings, reading in cases([MANY, *lively_tables(40, 0, 4)], 5, 12, 4):
            told = gains(table, program, reading)
            self.assertIs(type(told), list)
            self.assertEqual(told, slow_gains(table, program, reading))
            self.assertEqual(sum(told), need(table, program, reading))
            seen |= set(told)
        self.assertTrue({-1, 0, 1} <= seen)

    def test_greatest_of(self):
        seen = 0
        for table in [MANY, *some_tables(60), *lively_tables(60, 0, 4)]:
            for program in brute.some_programs(table, 5, 25):
                readings = brute.readings_of(table, program)
                if not readings:
                    with self.assertRaises(NoReading) as told:
                        greatest_of(table, program)
                    self.assertEqual(told.exception.node, unread_node(table, program))
                elif len(readings) <= 30:
                    needs = [brute.costs_of(table, readings, reading)[()] for reading in readings]
                    most = max(needs)
                    self.assertEqual(greatest_of(table, program), (most, readings[needs.index(most)]))
                    seen += most > 1
        self.assertGreater(seen, 40)

    def test_the_least_of_several_with_the_greatest_need(self):
        leaf = ((0, (), 0), (0, (), 1), (0, (), 2), (0, (), 3))
        more = ((1, (), 0), (1, (), 1), (1, (), 2), (1, (), 3))
        tie = (4, (0, 2), (*leaf[:3], (1, (1, 0), 2), (1, (1, 1), 3), (1, (1, 2), 2), (1, (2, 3), 3)))
        less = (4, (0, 1, 2), (*leaf, (1, (0,), 3), (1, (1,), 2), (1, (1,), 3), (1, (3,), 3), (2, (0, 2), 3), (2, (2, 2), 2),
                               (2, (2, 3), 3), (2, (3, 0), 3), (2, (3, 1), 3), (2, (3, 3), 3)))
        later = (4, (0, 0, 1, 2), (*leaf, *more, (2, (0,), 3), (2, (1,), 2), (2, (1,), 3), (2, (2,), 3), (2, (3,), 3),
                                   (3, (0, 3), 3), (3, (1, 2), 3), (3, (2, 1), 2), (3, (2, 2), 3), (3, (3, 1), 3),
                                   (3, (3, 2), 3)))
        for table, program, wanted in ((tie, (1, (0,), (0,)), (1, (2, 1, 0))), (less, (1, (2, (0,), (0,))), (2, (3, 3, 3, 3))),
                                       (later, (2, (3, (1,), (1,))), (2, (3, 3, 2, 2)))):
            readings = brute.readings_of(table, program)
            most, least = min((-brute.costs_of(table, readings, reading)[()], reading) for reading in readings)
            self.assertEqual([(-most, least), greatest_of(table, program)], [wanted, wanted])

    def test_greatest_of_greater_programs(self):
        """Held against the needs of all readings, which are held against the definition above."""
        rng = random.Random(24)
        seen = 0
        for table in [MANY, *layered_tables(120), *lively_tables(60, 500, 4)]:
            for size in (5, 6, 7, 8, 9):
                program = brute.some_program(table, size, rng)
                many = sum(readings_many(table, program, {})) if program else 0
                if 1 < many < 120:
                    told = [(-need(table, program, reading), reading) for reading in readings_of(table, program, {})]
                    most, reading = min(told)
                    self.assertEqual(greatest_of(table, program), (-most, reading))
                    seen += len({number for number, _ in told}) > 1
        self.assertGreater(seen, 60)

    def test_no_reading(self):
        for program, node in (((2, (0,), (0,)), 0), ((1, (2, (0,), (0,))), 1), ((2, (2, (0,), (0,)), (2, (0,), (0,))), 1)):
            for _ in range(2):
                with self.assertRaises(NoReading) as told:
                    greatest_of(MIXED, program)
                self.assertEqual(told.exception.node, node)
        with self.assertRaises(NoReading):
            greatest_of(UNREAD, (0,))

    def test_examples(self):
        self.assertEqual([costs(SINGLE, (0,), (0,)), need_told(SINGLE, (0,), (0,)), greatest_of(SINGLE, (1, (0,), (0,)))],
                         [{(): 0}, 0, (0, (0, 0, 0))])
        self.assertEqual([costs(LEAVES, (0,), (0,)), costs(LEAVES, (0,), (1,))], [{(): 1, (1,): 0}, {(): 1, (0,): 0}])
        self.assertEqual(costs(LEAVES, (1, (0,), (0,)), (0, 0, 1)), {(): 2, (1,): 2})
        self.assertEqual(list(costs(MANY, (1,), (3,))), [(), (0,), (0, 1), (0, 1, 2), (0, 2), (1,), (1, 2), (2,)])
        self.assertEqual(costs(MANY, (1,), (3,)), {(): 1, (0,): 1, (0, 1): 1, (0, 1, 2): 0, (0, 2): 0, (1,): 1, (1, 2): 0, (2,): 0})
        self.assertEqual([need_told(MANY, (1,), (3,)), need(MANY, (1,), (3,))], [0, 1])

    def test_two_ways_to_save_one_place(self):
        """At either part, but not at both: the others left are of the one kind, or of the other."""
        table = (3, (0, 2), ((0, (), 0), (0, (), 1), (1, (0, 0), 0), (1, (0, 1), 2), (1, (1, 0), 1), (1, (1, 1), 0)))
        self.assertEqual(costs(table, (1, (0,), (0,)), (0, 0, 0)), {(): 2, (1,): 1, (1, 2): 1, (2,): 1})
        self.assertEqual(brute.costs_of(table, brute.readings_of(table, (1, (0,), (0,))), (0, 0, 0)), {(): 2, (1,): 1, (1, 2): 1, (2,): 1})

    def test_forty_nodes(self):
        program = leafy(20)
        self.assertEqual(sum(readings_many(LEAVES, program, {})), 2 ** 20)
        for index in (0, 777, 2 ** 20 - 1):
            reading = reading_by(LEAVES, program, {}, index)
            self.assertEqual([need(LEAVES, program, reading), need_told(LEAVES, program, reading)], [20, 20])
            self.assertEqual(sum(gains(LEAVES, program, reading)), 20)
        self.assertEqual(greatest_of(LEAVES, program), (20, (0,) * 39))
        chain = nest((0,), 39, lambda part: (1, part))
        self.assertEqual(greatest_of(LINE, chain), (2, (1,) + (0,) * 39))
        self.assertEqual([need(LINE, chain, (1,) * row + (0,) * (40 - row)) for row in (0, 1, 38, 39)], [1, 2, 2, 1])

    def test_pairs_of_forty_nodes(self):
        program = (0,)
        while brute.size_by_parts(program) < 36:
            program = (3, (2, program, (1,)))
        many = readings_many(PAIRS, program, {})
        if sum(many):
            most, reading = greatest_of(PAIRS, program)
            self.assertEqual(need(PAIRS, program, reading), most)
            self.assertTrue(are_enough(PAIRS, program, reading, least_pins(PAIRS, program, reading)))
            for index in range(0, sum(many), max(1, sum(many) // 50)):
                self.assertLessEqual(need(PAIRS, program, reading_by(PAIRS, program, {}, index)), most)

    def test_greater_than_forty(self):
        program, reading = leafy(700), (0,) * 699 + (0, 1) * 350
        self.assertEqual([need(LEAVES, program, reading), len(gains(LEAVES, program, reading))], [700, 1399])
        chain = nest((0,), 1500, lambda part: (1, part))
        self.assertEqual(greatest_of(LINE, chain), (2, (1,) + (0,) * 1500))
        self.assertEqual(costs(LINE, chain, (1,) * 800 + (0,) * 701), {(): 2, (0,): 2})
        self.assertEqual(costs(LINE, chain, (1,) + (0,) * 1500), {(): 2, (0,): 1})

    def test_called_twice(self):
        program, reading = (1, (1, (0,))), (1, 0, 0)
        for call in (lambda: costs(LINE, program, reading), lambda: gains(LINE, program, reading), lambda: need(LINE, program, reading),
                     lambda: need_told(LINE, program, reading), lambda: greatest_of(LINE, program),
                     lambda: costs(MANY, (3, (1,), (0,)), (2, 3, 0))):
            first, again = call(), call()
            spoil(first)
            self.assertEqual(call(), again)
            self.assertEqual(repr(call()), repr(again))


if __name__ == "__main__":
    unittest.main()
