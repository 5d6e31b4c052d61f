"""[25]: least places that are enough."""

import itertools
import random
import unittest

from pinsenough.enough import are_enough, other_reading
from pinsenough.errors import NotEnough, TooMany
from pinsenough.leastpins import all_least_pins, least_pins, pins_for, thinned
from pinsenough.needs import costs
from pinsenough.readings import reading_by, readings_many
import brute
from brute import LEAVES, LINE, MIXED, lively_tables, nest, some_tables, spoil
from test_needs import MANY, cases, leafy


def slow_thinned(table, program, reading, places):
    left = places
    for place in sorted(places, reverse=True):
        less = tuple(node for node in left if node != place)
        if are_enough(table, program, reading, less):
            left = less
    return left


def chain(size):
    return nest((0,), size - 1, lambda part: (1, part))


class LeastPinsTest(unittest.TestCase):
    def test_pins_for(self):
        seen = 0
        for table, program, readings, reading in cases([MANY, *some_tables(80), *lively_tables(60, 0, 4)]):
            for lot, cost in brute.costs_of(table, readings, reading).items():
                places = pins_for(table, program, reading, lot)
                self.assertEqual(places, tuple(sorted(set(places))))
                self.assertEqual(len(places), cost)
                self.assertTrue(brute.are_told(readings, reading, places, lot))
                seen += cost > 1
            places = least_pins(table, program, reading)
            self.assertEqual(len(places), brute.costs_of(table, readings, reading)[()])
            self.assertTrue(brute.are_told(readings, reading, places, ()))
        self.assertGreater(seen, 300)

    def test_all_least_pins(self):
        seen = 0
        for table, program, readings, reading in cases([MANY, *some_tables(60), *lively_tables(60, 0, 4)]):
            many = brute.costs_of(table, readings, reading)[()]
            wanted = [places for places in itertools.combinations(range(len(reading)), many)
                      if brute.are_told(readings, reading, places, ())]
            told = all_least_pins(table, program, reading)
            self.assertEqual(told, wanted)
            self.assertIn(least_pins(table, program, reading), told)
            seen += len(told) > 1
        self.assertGreater(seen, 100)
        self.assertEqual([all_least_pins(LINE, (0,), (0,)), least_pins(LINE, (0,), (0,))], [[()], ()])

    def test_twelve_and_thirteen(self):
        self.assertEqual(all_least_pins(LINE, chain(12), (1,) * 5 + (0,) * 7), [(4, 5)])
        self.assertEqual(all_least_pins(LINE, chain(12), (0,) * 12), [(0,)])
        with self.assertRaises(TooMany) as told:
            all_least_pins(LINE, chain(13), (0,) * 13)
        self.assertEqual(told.exception.most, 12)
        self.assertEqual(all_least_pins(LEAVES, leafy(6), (0,) * 11), [(5, 6, 7, 8, 9, 10)])
        with self.assertRaises(TooMany):
            all_least_pins(LEAVES, leafy(7), (0,) * 13)
        wide = (1, (0, 2, 1), ((0, (), 0), (1, (0, 0), 0), (2, (0,), 0)))
        self.assertEqual(all_least_pins(wide, (2, leafy(6)), (0,) * 12), [()])

    def test_thinned(self):
        rng = random.Random(25)
        seen = {True: 0, False: 0}
        for table, program, readings, reading in cases([MANY, MIXED, *lively_tables(80, 0, 4)], 6, 20, 4):
            size = len(reading)
            some = [tuple(sorted(rng.sample(range(size), rng.randint(0, size)))) for _ in range(3)]
            for places in [tuple(range(size)), (), *some]:
                if are_enough(table, program, reading, places):
                    told = thinned(table, program, reading, places)
                    self.assertEqual(told, slow_thinned(table, program, reading, places))
                    seen[True] += len(told) > 1
                else:
                    with self.assertRaises(NotEnough) as raised:
                        thinned(table, program, reading, places)
                    self.assertEqual(raised.exception.other, other_reading(table, program, reading, places))
                    seen[False] += 1
        self.assertGreater(min(seen.values()), 50)

    def test_thinned_may_be_more_than_the_need(self):
        # The top alone would do, but it is looked at last.
        table = (2, (0, 2), ((0, (), 0), (0, (), 1), (1, (0, 0), 0), (1, (0, 1), 1), (1, (1, 0), 1)))
        self.assertEqual([least_pins(table, (1, (0,), (0,)), (0, 0, 0)), thinned(table, (1, (0,), (0,)), (0, 0, 0), (0, 1, 2))],
                         [(0,), (0,)])
        found = [(table, program, reading) for table, program, readings, reading in cases(lively_tables(150, 300, 4), 6, 20, 4)
                 if len(thinned(table, program, reading, tuple(range(len(reading))))) > len(least_pins(table, program, reading))]
        self.assertGreater(len(found), 0)

    def test_forty_nodes(self):
        rng = random.Random(40)
        program = leafy(20)
        for index in (0, 54321, 2 ** 20 - 1):
            reading = reading_by(LEAVES, program, {}, index)
            self.assertEqual(least_pins(LEAVES, program, reading), tuple(range(19, 39)))
            self.assertEqual(thinned(LEAVES, program, reading, tuple(range(39))), tuple(range(19, 39)))
            self.assertEqual(pins_for(LEAVES, program, reading, (1,)), tuple(range(19, 39)))
        tall = nest((0,), 4, lambda part: (3, (2, part), (2, (1,))))
        many = sum(readings_many(MANY, tall, {}))
        for index in sorted(rng.sample(range(many), min(many, 30))):
            reading = reading_by(MANY, tall, {}, index)
            told = costs(MANY, tall, reading)
            places = least_pins(MANY, tall, reading)
            self.assertTrue(len(places) == told[()] and are_enough(MANY, tall, reading, places))
            less = thinned(MANY, tall, reading, tuple(range(len(reading))))
            self.assertGreaterEqual(len(less), told[()])
            self.assertEqual(less, slow_thinned(MANY, tall, reading, tuple(range(len(reading)))))

    def test_greater_than_forty(self):
        program, reading = chain(1200), (1,) * 500 + (0,) * 700
        self.assertEqual([least_pins(LINE, program, reading), thinned(LINE, program, reading, tuple(range(1200)))], [(499, 500)] * 2)
        self.assertEqual(pins_for(LINE, program, (1,) + (0,) * 1199, (0,)), (1,))
        wide = leafy(400)
        self.assertEqual(thinned(LEAVES, wide, (0,) * 799, tuple(range(799))), tuple(range(399, 799)))

    def test_called_twice(self):
        program, reading = (1, (1, (0,))), (1, 0, 0)
        for call in (lambda: all_least_pins(LINE, program, reading), lambda: least_pins(LINE, program, reading),
                     lambda: pins_for(LINE, program, reading, (0,)), lambda: thinned(LINE, program, reading, (0, 1, 2))):
            first, again = call(), call()
            spoil(first)
            self.assertEqual(call(), again)
            self.assertEqual(repr(call()), repr(again))


if __name__ == "__main__":
    unittest.main()
