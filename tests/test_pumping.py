"""[20], with [2], [3] and [4]: contexts that are filled with themselves."""

import itertools
import unittest

from pinsenough.made import least_programs
from pinsenough.programs import filled, hole_of, size_of
from pinsenough.pumping import laid_in, piled, pumped
from pinsenough.readings import readings_of
from pinsenough.rounds import shifting_round, twofold_round
import brute
from brute import LEAVES, LINE, MIXED, PAIRS, lively_tables, nest, spoil
from test_rounds import APART_ENDS, BOTH, NAMED, SIDE, SIDE_SHIFT

SHIFT = ((1, None), (1, 1), (0, 0), (1, 0))
TWO = ((1, None, (0,)), (0, 0, 0), (0, 0, 1))


def slow_piled(context, many):
    """The context many times, from the innermost one out."""
    return context if many == 1 else filled(context, slow_piled(context, many - 1))


def slow_pumped(found, many, reading):
    """All readings by a choice for each time, the kinds fitting, from the innermost one out."""
    hole = hole_of(found[0])
    told = set()
    for chosen in itertools.product(found[1:], repeat=many):
        whole, fits = reading, True
        for row in chosen:
            fits = fits and row[hole] == whole[0]
            whole = row[:hole] + whole + row[hole + 1:]
        if fits:
            told.add(whole)
    return sorted(told)


class PumpingTest(unittest.TestCase):
    def test_piled(self):
        self.assertEqual([piled(None, 1), piled(None, 9), piled((1, None), 1), piled((1, None), 3)],
                         [None, None, (1, None), (1, (1, (1, None)))])
        for table in (LEAVES, MIXED, PAIRS):
            for program in brute.some_programs(table, 5, 20):
                for context in brute.contexts_of(program):
                    for many in (1, 2, 3):
                        self.assertEqual(piled(context, many), slow_piled(context, many))
        self.assertEqual(size_of(piled((1, (0,), (1, None, (0,))), 2000)), 8000)

    def test_laid_in(self):
        self.assertEqual([laid_in(None, (1,), (1, 0, 1)), laid_in((1, None, (0,)), (0, 1, 0), (1, 0, 1))],
                         [(1, 0, 1), (0, 1, 0, 1, 0)])
        seen = 0
        for table in [LEAVES, MIXED, *lively_tables(25)]:
            programs = brute.some_programs(table, 4, 12)
            for program in programs:
                for context in brute.contexts_of(program):
                    for other in [*programs[:5], *brute.contexts_of(programs[-1])]:
                        whole = filled(context, other)
                        for reading in brute.readings_of(table, context)[:6]:
                            for inner in brute.readings_of(table, other)[:6]:
                                if inner[0] == reading[hole_of(context)]:
                                    told = laid_in(context, reading, inner)
                                    self.assertTrue(brute.is_reading(table, whole, told))
                                    seen += 1
        self.assertGreater(seen, 1000)

    def test_pumped_examples(self):
        self.assertEqual(pumped(SHIFT, 1, (0,), (0,)), ((1, (0,)), [(0, 0), (1, 0)]))
        self.assertEqual(pumped(TWO, 1, (0,), (0,)), ((1, (0,), (0,)), [(0, 0, 0), (0, 0, 1)]))
        program, readings = pumped(TWO, 2, (0,), (0,))
        self.assertEqual([program, readings], [(1, (1, (0,), (0,)), (0,)), [(0, 0, 0, 0, 0), (0, 0, 0, 0, 1),
                                                                           (0, 0, 0, 1, 0), (0, 0, 0, 1, 1)]])
        for many in range(1, 9):
            self.assertEqual(len(pumped(TWO, many, (0,), (0,))[1]), 2 ** many)
            self.assertEqual(pumped(SHIFT, many, (0,), (0,))[1], [(1,) * row + (0,) * (many + 1 - row) for row in range(many + 1)])

    def test_pumped(self):
        seen = [0, 0]
        for table in [*NAMED, *lively_tables(60)]:
            least = least_programs(table)
            for sort, found in enumerate((twofold_round(table), shifting_round(table))):
                if found is not None:
                    kind = found[-1][hole_of(found[0])]
                    reading = [row for row in readings_of(table, least[kind], {}) if row[0] == kind][-1]
                    for many in (1, 2, 3):
                        whole, readings = pumped(found, many, least[kind], reading)
                        self.assertEqual(whole, filled(slow_piled(found[0], many), least[kind]))
                        self.assertEqual(readings, slow_pumped(found, many, reading))
                        self.assertEqual(len(readings), many + 1 if sort else 2 ** many)
                        self.assertTrue(all(brute.is_reading(table, whole, row) for row in readings))
                    seen[sort] += 1
        self.assertGreater(min(seen), 5)

    def test_eight_times_with_great_readings(self):
        program = nest((0,), 2000, lambda part: (1, part))
        whole, readings = pumped(((1, (1, None)), (0, 0, 0), (0, 1, 0)), 8, program, (0,) * 2001)
        self.assertEqual([size_of(whole), len(readings), len(readings[7])], [2017, 256, 2017])
        self.assertEqual(readings, sorted(set(readings)))

    def test_called_twice(self):
        for call in (lambda: pumped(SHIFT, 3, (0,), (0,)), lambda: pumped(TWO, 3, (0,), (0,)), lambda: piled(TWO[0], 3),
                     lambda: laid_in((1, None, (0,)), (0, 1, 0), (1, 0, 1)),
                     lambda: pumped(twofold_round(SIDE), 2, (0,), (0,)), lambda: pumped(twofold_round(BOTH), 2, (0,), (0,))):
            first, again = call(), call()
            spoil(first)
            self.assertEqual(call(), again)
        self.assertEqual(SHIFT, ((1, None), (1, 1), (0, 0), (1, 0)))
        self.assertEqual(len(pumped(shifting_round(SIDE_SHIFT), 4, (0,), (1,))[1]), 5)
        self.assertEqual(len(pumped(shifting_round(APART_ENDS), 4, (1,), (1,))[1]), 5)


if __name__ == "__main__":
    unittest.main()
