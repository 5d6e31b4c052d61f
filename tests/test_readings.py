"""[17], with [2], [3] and [4]: the readings that agree with pins."""

import random
import unittest

from pinsenough.errors import NoIndex, TooMany
from pinsenough.readings import index_of, kinds_left, reading_by, readings_many, readings_of, unread_node
import brute
from brute import COUNTING, LEAVES, LINE, MIXED, UNREAD, any_values, euclid, nest, some_tables, spoil

BOTH = (2, (0, 1), ((0, (), 0), (0, (), 1), (1, (0,), 0), (1, (0,), 1), (1, (1,), 0), (1, (1,), 1)))
DEEP = nest((0,), 39, lambda part: (1, part))


def some_pins(table, program, seed):
    """PINS of which some leave many readings, some few, some none."""
    rng = random.Random(seed)
    many = len(brute.nodes_of(program))
    found = [{}]
    for share in (1, 2, 3, many):
        nodes = rng.sample(range(many), min(share, many))
        found.append({node: rng.randrange(table[0]) for node in nodes})
    readings = brute.readings_of(table, program)
    if readings:
        reading = rng.choice(readings)
        found.append({node: reading[node] for node in rng.sample(range(many), min(2, many))})
        found.append(dict(enumerate(reading)))
    return found


def cases(count, size=6, most=20):
    for seed, table in enumerate(some_tables(count)):
        for at, program in enumerate(brute.some_programs(table, size, most)):
            for pins in some_pins(table, program, 1000 * seed + at):
                yield table, program, pins


class ReadingsTest(unittest.TestCase):
    def test_against_the_definition(self):
        seen = 0
        for table, program, pins in cases(200):
            before = list(pins.items())
            readings = brute.agreeing(table, program, pins)
            seen += len(readings)
            self.assertEqual(readings_of(table, program, pins), readings)
            tally = tuple(len([reading for reading in readings if reading[0] == kind]) for kind in range(table[0]))
            self.assertEqual(readings_many(table, program, pins), tally)
            left = [tuple(sorted({reading[node] for reading in readings})) for node in range(len(brute.nodes_of(program)))]
            self.assertEqual(kinds_left(table, program, pins), left)
            for index, reading in enumerate(readings):
                self.assertEqual(reading_by(table, program, pins, index), reading)
                self.assertEqual(index_of(table, program, pins, reading), index)
            for index in (len(readings), -1):
                with self.assertRaises(NoIndex) as told:
                    reading_by(table, program, pins, index)
                self.assertEqual(told.exception.index, index)
            self.assertEqual(list(pins.items()), before)
        self.assertGreater(seen, 2500)

    def test_two_parts(self):
        program = (1, (1, (0,), (0,)), (1, (0,), (0,)))
        readings = brute.readings_of(LEAVES, program)
        self.assertEqual(len(readings), 16)
        self.assertEqual(readings_of(LEAVES, program, {}), readings)
        self.assertEqual([index_of(LEAVES, program, {}, reading) for reading in readings], list(range(16)))
        self.assertEqual([reading_by(LEAVES, program, {3: 1}, index) for index in range(8)],
                         [reading for reading in readings if reading[3] == 1])

    def test_index_of_any_value(self):
        program = (1, (1, (0,)))
        for value in [*any_values(), 3, -3, 1.5]:
            if type(value) is int and 0 <= value < 3:
                self.assertEqual(reading_by(LINE, program, {}, value), readings_of(LINE, program, {})[value])
            else:
                with self.assertRaises(NoIndex) as told:
                    reading_by(LINE, program, {}, value)
                self.assertIs(told.exception.index, value)

    def test_pins_that_leave_none(self):
        program = (1, (1, (0,)))
        for pins in ({2: 1}, {0: 0, 1: 1}):
            self.assertEqual([readings_of(LINE, program, pins), readings_many(LINE, program, pins)], [[], (0, 0)])
            self.assertEqual(kinds_left(LINE, program, pins), [(), (), ()])
            with self.assertRaises(NoIndex):
                reading_by(LINE, program, pins, 0)

    def test_one_node(self):
        self.assertEqual([readings_of(LEAVES, (0,), {}), readings_of(LEAVES, (0,), {0: 1})], [[(0,), (1,)], [(1,)]])
        self.assertEqual([reading_by(LEAVES, (0,), {0: 1}, 0), index_of(LEAVES, (0,), {0: 1}, (1,))], [(1,), 0])
        self.assertEqual([readings_many((1, (0,), ()), (0,), {}), kinds_left((1, (0,), ()), (0,), {})], [(0,), [()]])

    def test_just_so_many(self):
        for one, other in ((3091, 1909), (1909, 3091), (3001, 1999)):
            program = euclid(one, other)
            self.assertEqual(readings_many(COUNTING, program, {}), (one, other))
            readings = readings_of(COUNTING, program, {})
            self.assertEqual(len(readings), 5000)
            self.assertEqual(readings, sorted(set(readings)))
            self.assertEqual(reading_by(COUNTING, program, {}, 4321), readings[4321])
        for one, other in ((3091, 1910), (1910, 3091)):
            program = euclid(one, other)
            self.assertEqual(readings_many(COUNTING, program, {}), (one, other))
            for _ in range(2):
                with self.assertRaises(TooMany) as told:
                    readings_of(COUNTING, program, {})
                self.assertEqual(told.exception.most, 5000)
            self.assertEqual(len(readings_of(COUNTING, program, {0: 0})), one)

    def test_few_of_very_many(self):
        pins = {node: 1 for node in range(28)}
        readings = readings_of(BOTH, DEEP, pins)
        self.assertEqual([len(readings), readings[5][28:], readings[5][:28]], [4096, (0,) * 9 + (1, 0, 1), (1,) * 28])
        dead = (3, (0, 1, 1), (*BOTH[2], (2, (0,), 2)))
        program = (2, (1, (0,)))
        self.assertEqual(readings_of(dead, program, {}), [(2, 0, 0), (2, 0, 1)])

    def test_forty_nodes(self):
        self.assertEqual(readings_many(BOTH, DEEP, {}), (2 ** 39, 2 ** 39))
        with self.assertRaises(TooMany):
            readings_of(BOTH, DEEP, {})
        for index in (0, 1, 2 ** 39 - 1, 2 ** 39, 123456789012, 2 ** 40 - 1):
            wanted = tuple(int(digit) for digit in f"{index:040b}")
            self.assertEqual(reading_by(BOTH, DEEP, {}, index), wanted)
            self.assertEqual(index_of(BOTH, DEEP, {}, wanted), index)
        with self.assertRaises(NoIndex):
            reading_by(BOTH, DEEP, {}, 2 ** 40)
        self.assertEqual(kinds_left(BOTH, DEEP, {3: 1}), [(0, 1)] * 3 + [(1,)] + [(0, 1)] * 36)
        self.assertEqual(unread_node(BOTH, DEEP), None)

    def test_wide_programs_of_forty_nodes(self):
        program = (0,)
        for _ in range(19):
            program = (1, program, (0,))
        many = 2 ** 20
        self.assertEqual(sum(readings_many(LEAVES, program, {})), many)
        rng = random.Random(3)
        readings = []
        for index in sorted(rng.sample(range(many), 60)):
            reading = reading_by(LEAVES, program, {}, index)
            self.assertTrue(brute.is_reading(LEAVES, program, reading))
            self.assertEqual(index_of(LEAVES, program, {}, reading), index)
            readings.append(reading)
        self.assertEqual(readings, sorted(set(readings)))

    def test_deeper_than_calls(self):
        program = nest((0,), 2500, lambda part: (1, part))
        self.assertEqual(readings_many(LINE, program, {}), (1, 2500))
        self.assertEqual(reading_by(LINE, program, {}, 7), (1,) * 7 + (0,) * 2494)
        self.assertEqual(index_of(LINE, program, {}, (1,) * 7 + (0,) * 2494), 7)
        self.assertEqual(len(readings_of(LINE, program, {2000: 1})), 500)
        self.assertEqual(kinds_left(LINE, program, {})[-1], (0,))
        self.assertEqual(unread_node(LINE, program), None)

    def test_unread_node(self):
        unread = 0
        for table in some_tables(120):
            for program in brute.some_programs(table, 6, 40):
                tops = brute.nodes_of(program)
                nodes = [node for node, top in enumerate(tops) if not brute.readings_of(table, top)
                         and all(brute.readings_of(table, part) for part in top[1:])]
                wanted = None if brute.readings_of(table, program) else nodes[0]
                unread += wanted is not None
                told = unread_node(table, program)
                self.assertEqual((told, type(told)), (wanted, type(wanted)))
        self.assertGreater(unread, 200)
        self.assertEqual([unread_node(UNREAD, (1, (0,), (0,))), unread_node(MIXED, (2, (2, (0,), (0,)), (2, (0,), (0,))))], [1, 1])

    def test_called_twice(self):
        program, pins = (1, (1, (0,))), {0: 1}
        for call in (lambda: readings_of(LINE, program, pins), lambda: kinds_left(LINE, program, pins),
                     lambda: readings_many(LINE, program, pins), lambda: reading_by(LINE, program, pins, 1),
                     lambda: index_of(LINE, program, pins, (1, 1, 0)), lambda: unread_node(LINE, program)):
            first = call()
            again = call()
            spoil(first)
            self.assertEqual(call(), again)
            self.assertEqual(pins, {0: 1})


if __name__ == "__main__":
    unittest.main()
