"""[23], with AGREE, PLACES and ENOUGH of [2]."""

import itertools
import random
import unittest

from pinsenough.enough import agree, are_enough, other_reading
import brute
from brute import LEAVES, LINE, lively_tables, nest, some_tables, spoil


def some_places(many, rng):
    """() and all places, and some between."""
    found = [(), tuple(range(many)), (0,), (many - 1,)]
    return found + [tuple(sorted(rng.sample(range(many), rng.randint(0, many)))) for _ in range(4)]


def slow_agree(one, other, places):
    return {node: one[node] for node in places} == {node: other[node] for node in places}


class EnoughTest(unittest.TestCase):
    def test_against_the_definition(self):
        rng = random.Random(23)
        seen = {True: 0, False: 0}
        for table in [*some_tables(80), *lively_tables(60)]:
            for program in brute.some_programs(table, 5, 25):
                readings = brute.readings_of(table, program)
                for reading in readings[:6]:
                    for places in some_places(len(reading), rng):
                        others = [row for row in readings if row != reading and slow_agree(row, reading, places)]
                        self.assertEqual(other_reading(table, program, reading, places), others[0] if others else None)
                        self.assertIs(are_enough(table, program, reading, places), not others)
                        seen[not others] += 1
        self.assertGreater(min(seen.values()), 1000)

    def test_agree(self):
        for one, other in itertools.product(itertools.product(range(3), repeat=3), repeat=2):
            for places in ((), (0,), (1,), (0, 2), (0, 1, 2)):
                self.assertIs(agree(one, other, places), slow_agree(one, other, places))

    def test_examples(self):
        program = (1, (1, (0,)))
        self.assertEqual([other_reading(LINE, program, (0, 0, 0), ()), other_reading(LINE, program, (1, 1, 0), ())],
                         [(1, 0, 0), (0, 0, 0)])
        self.assertEqual([other_reading(LINE, (0,), (0,), ()), are_enough(LINE, (0,), (0,), ())], [None, True])
        self.assertEqual([are_enough(LINE, program, (0, 0, 0), (0,)), are_enough(LINE, program, (0, 0, 0), (2,))], [True, False])

    def test_very_many_readings(self):
        program = (0,)
        for _ in range(19):
            program = (1, program, (0,))
        low, high = (0,) * 39, (1,) * 39
        self.assertEqual(other_reading(LEAVES, program, low, ()), (0,) * 38 + (1,))
        self.assertIsNone(other_reading(LEAVES, program, low, tuple(range(39))))
        self.assertFalse(are_enough(LEAVES, program, low, tuple(range(38))))
        leaves = tuple(range(19, 39))
        told = other_reading(LEAVES, program, low, leaves[1:])
        self.assertEqual([told[19], sum(told), other_reading(LEAVES, program, low, leaves)], [1, 1, None])
        self.assertTrue(brute.is_reading(LEAVES, program, told))
        self.assertFalse(brute.is_reading(LEAVES, program, high))

    def test_greater_than_forty(self):
        program = nest((0,), 1500, lambda part: (1, part))
        reading = (1,) * 700 + (0,) * 801
        self.assertEqual(other_reading(LINE, program, reading, (3,)), (1,) * 4 + (0,) * 1497)
        self.assertEqual(other_reading(LINE, program, reading, (699,)), (1,) * 701 + (0,) * 800)
        self.assertTrue(are_enough(LINE, program, reading, (699, 700)))

    def test_called_twice(self):
        for call in (lambda: other_reading(LINE, (1, (1, (0,))), (1, 0, 0), ()), lambda: agree((0, 1), (0, 0), (0,)),
                     lambda: are_enough(LINE, (1, (1, (0,))), (1, 0, 0), (1,))):
            first, again = call(), call()
            spoil(first)
            self.assertEqual(call(), again)


if __name__ == "__main__":
    unittest.main()
