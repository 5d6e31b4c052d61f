"""[16], with [2] and [3]: kinds that are made and met, least programs, trimmed tables."""

import itertools
import unittest

from pinsenough.forms import is_table
from pinsenough.made import least_programs, made_kinds, met_kinds, trimmed
from pinsenough.programs import size_of
import brute
from brute import BARE, LEAVES, LINE, MIXED, PAIRS, UNREAD, some_tables, spoil

MOST_SIZE = 7


def seen_programs(table):
    return brute.some_programs(table, MOST_SIZE, 600)


def lots_of(table):
    return [lot for many in range(table[0] + 1) for lot in itertools.combinations(range(table[0]), many)]


def slow_met(table, wanted):
    """The entries met, grown from below and from above until nothing is new."""
    made = set()
    met = set()
    for _ in range(table[0] + 1):
        made |= {kind for _, parts, kind in table[2] if set(parts) <= made}
    tops = set(wanted)
    for _ in range(table[0] + 1):
        for sign, parts, kind in table[2]:
            if kind in tops and set(parts) <= made:
                met.add((sign, parts, kind))
                tops |= set(parts)
    return sorted(met)


class MadeTest(unittest.TestCase):
    def test_examples(self):
        self.assertEqual([made_kinds(LINE), made_kinds(MIXED), made_kinds(BARE), made_kinds(UNREAD)], [[0, 1], [0, 1], [], []])
        self.assertEqual(least_programs(PAIRS), {0: (0,), 1: (1,), 2: (2, (0,), (1,))})
        self.assertEqual([least_programs(BARE), least_programs(UNREAD)], [{}, {}])

    def test_the_least_of_the_least_size(self):
        table = (2, (0, 0, 2, 1), ((0, (), 0), (1, (), 0), (2, (0, 0), 1), (3, (0,), 1)))
        self.assertEqual(least_programs(table), {0: (0,), 1: (3, (0,))})
        table = (3, (0, 0, 2), ((0, (), 1), (1, (), 0), (2, (0, 1), 2), (2, (1, 0), 2)))
        self.assertEqual(least_programs(table)[2], (2, (0,), (1,)))
        self.assertEqual(list(least_programs(table)), [0, 1, 2])

    def test_kinds_that_are_found_late(self):
        table = (4, (0, 2, 1, 1), ((0, (), 0), (1, (0, 0), 3), (1, (0, 3), 2), (2, (0,), 1), (3, (1,), 2)))
        self.assertEqual(list(least_programs(table).items()),
                         [(0, (0,)), (1, (2, (0,))), (2, (3, (2, (0,)))), (3, (1, (0,), (0,)))])

    def test_sizes_that_double(self):
        table = (4, (0, 2), ((0, (), 0), (1, (0, 0), 1), (1, (1, 1), 2), (1, (2, 2), 3)))
        self.assertEqual([size_of(program) for program in least_programs(table).values()], [1, 3, 7, 15])

    def test_against_all_small_programs(self):
        for table in some_tables(120):
            least = least_programs(table)
            self.assertEqual(list(least), made_kinds(table))
            self.assertEqual(made_kinds(table), sorted(set(made_kinds(table))))
            seen = {}
            for program in seen_programs(table):
                for reading in brute.readings_of(table, program):
                    best = seen.setdefault(reading[0], (size_of(program), program))
                    seen[reading[0]] = min(best, (size_of(program), program))
            for kind, (_, program) in seen.items():
                self.assertEqual(least[kind], program)
            for kind, program in least.items():
                self.assertIn(kind, [reading[0] for reading in brute.readings_of(table, program)])

    def test_met_examples(self):
        self.assertEqual([met_kinds(MIXED, lot) for lot in ((), (0,), (1,), (2,), (0, 2))], [[], [0], [0, 1], [], [0]])
        self.assertEqual([met_kinds(LEAVES, (1,)), met_kinds(LEAVES, (0,)), met_kinds(UNREAD, (0, 1))], [[1], [0, 1], []])
        self.assertEqual(trimmed(MIXED, (1,)), (3, (0, 1, 2), MIXED[2][:4]))
        self.assertEqual([trimmed(MIXED, ()), trimmed(MIXED, (2,))], [(3, (0, 1, 2), ())] * 2)
        self.assertEqual([trimmed(UNREAD, (0, 1)), trimmed(BARE, (0,))], [(2, (0, 2), ()), BARE])

    def test_met_through_parts_that_are_not_made(self):
        table = (4, (0, 2), ((0, (), 0), (0, (), 1), (1, (0, 2), 3), (1, (1, 1), 3)))
        self.assertEqual([met_kinds(table, (3,)), trimmed(table, (2, 3))[2]], [[1, 3], ((0, (), 1), (1, (1, 1), 3))])

    def test_met_against_all_small_programs(self):
        for table in some_tables(60):
            told = {lot: set() for lot in lots_of(table)}
            for program in seen_programs(table):
                tops = brute.nodes_of(program)
                for reading in brute.readings_of(table, program):
                    used = set()
                    for node, top in enumerate(tops):
                        ats = [node + 1]
                        for part in top[1:]:
                            ats.append(ats[-1] + len(brute.nodes_of(part)))
                        used.add((top[0], tuple(reading[at] for at in ats[:-1]), reading[node]))
                    for lot in told:
                        if reading[0] in lot:
                            told[lot] |= used
            for lot, used in told.items():
                entries = trimmed(table, lot)[2]
                self.assertLessEqual(used, set(entries))
                self.assertEqual(list(entries), slow_met(table, lot))
                self.assertEqual(met_kinds(table, lot), sorted({entry[2] for entry in entries}))

    def test_trimmed_is_a_table(self):
        for table in some_tables(40):
            for lot in lots_of(table):
                told = trimmed(table, lot)
                self.assertTrue(is_table(told))
                self.assertEqual(told[:2], table[:2])
                self.assertEqual(trimmed(told, lot), told)

    def test_called_twice(self):
        for call in (lambda: made_kinds(PAIRS), lambda: least_programs(PAIRS), lambda: met_kinds(PAIRS, (1,)), lambda: trimmed(PAIRS, (1,))):
            first = call()
            again = call()
            spoil(first)
            self.assertEqual(call(), again)


if __name__ == "__main__":
    unittest.main()
