"""[22], with [8]: numbers of readings."""

import unittest

from pinsenough.errors import TooMany, Unbounded
from pinsenough.growth import growth, growth_paper
from pinsenough.manyreads import by_sizes, cut_tallies, greatest_readings, least_with
from pinsenough.programs import size_of
from pinsenough.readings import readings_many
import brute
from brute import BARE, COUNTING, LEAVES, LINE, MIXED, PAIRS, UNREAD, lively_tables, some_tables, spoil
from test_growth import TWO

# Just 600 tallies, none of them 0, the one cut at 6, the other at 4.
SIX_HUNDRED = (4, (0, 0, 2, 2, 2, 2),
               ((0, (), 0), (2, (0, 0), 3), (2, (0, 2), 2), (2, (2, 0), 1), (2, (2, 2), 0), (3, (0, 0), 2), (3, (1, 2), 2),
                (3, (1, 3), 1), (3, (3, 3), 1), (4, (0, 0), 3), (4, (1, 2), 3), (4, (3, 1), 3), (5, (0, 2), 3), (5, (2, 2), 0),
                (5, (3, 0), 0), (5, (3, 0), 2)))
ALSO = (4, (0, 1, 1, 2),
        ((0, (), 0), (1, (0,), 1), (1, (1,), 2), (1, (3,), 1), (2, (0,), 1), (2, (0,), 3), (2, (3,), 2), (3, (0, 1), 2),
         (3, (0, 1), 3), (3, (0, 2), 3), (3, (0, 3), 0), (3, (1, 1), 3), (3, (1, 3), 0), (3, (2, 0), 2), (3, (2, 2), 1),
         (3, (2, 2), 2), (3, (3, 0), 2), (3, (3, 1), 1), (3, (3, 1), 2), (3, (3, 2), 1)))


def lone(many):
    """A table with a sign without parts for each of so many sets of ten kinds."""
    entries = [(sign, (), kind) for sign in range(many) for kind in range(10) if (sign + 1) >> kind & 1]
    return (10, (0,) * many, tuple(entries))


def tally_of(table, program, most):
    return tuple(min(number, most) for number in readings_many(table, program, {}))


def least_sizes(table, most, size):
    """From the tallies of all programs up to a size to the least sizes."""
    found = {}
    for program in brute.some_programs(table, size, 250):
        tally = tally_of(table, program, most)
        if any(tally):
            found.setdefault(tally, size_of(program))
    return found


class ManyReadsTest(unittest.TestCase):
    def test_tallies_against_the_definition(self):
        seen = 0
        for table in [*some_tables(60), *lively_tables(60)]:
            for most in (1, 2, 3):
                told = cut_tallies(table, most)
                wanted = sorted(tally for tally in brute.tallies_cut(table, most) if any(tally))
                self.assertEqual(list(told), wanted)
                for tally, program in told.items():
                    self.assertTrue(brute.slow_tree(table, program))
                    self.assertEqual(tally_of(table, program, most), tally)
                least = least_sizes(table, most, 6)
                for tally, size in least.items():
                    self.assertLessEqual(size_of(told[tally]), size)
                seen += len([tally for tally in told if tally in least and size_of(told[tally]) > 2])
        self.assertGreater(seen, 200)

    def test_least_sizes(self):
        for table in (LINE, LEAVES, MIXED, TWO, COUNTING):
            for most in range(1, 7):
                told = cut_tallies(table, most)
                least = {}
                memo = {}
                for size in range(1, 8):
                    for program in brute.programs_of_size(table, size, memo):
                        least.setdefault(tally_of(table, program, most), size)
                for tally, size in least.items():
                    if any(tally):
                        self.assertEqual(size_of(told[tally]), size)
                self.assertTrue(all(size_of(told[tally]) > 7 for tally in told if tally not in least))

    def test_examples(self):
        self.assertEqual([cut_tallies(BARE, 6), cut_tallies(UNREAD, 3)], [{}, {}])
        self.assertEqual(list(cut_tallies(LINE, 6)), [(1, number) for number in range(7)])
        self.assertEqual(size_of(cut_tallies(LINE, 6)[(1, 6)]), 7)
        self.assertEqual(list(cut_tallies(LEAVES, 6)), [(1, 1), (4, 0), (6, 0)])
        self.assertEqual([size_of(program) for program in cut_tallies(LEAVES, 6).values()], [1, 3, 5])

    def test_least_with(self):
        seen = 0
        for table in [*some_tables(50), *lively_tables(60)]:
            for many in range(1, 7):
                try:
                    told = least_with(table, many)
                except TooMany:
                    continue
                sizes = [size_of(program) for program in brute.some_programs(table, 6, 250)
                         if sum(readings_many(table, program, {})) >= many]
                if told is None:
                    self.assertEqual(sizes, [])
                else:
                    self.assertGreaterEqual(sum(readings_many(table, told, {})), many)
                    self.assertLessEqual(size_of(told), min(sizes, default=10 ** 6))
                    seen += bool(sizes)
        self.assertGreater(seen, 150)
        self.assertEqual([least_with(table, 1) for table in (BARE, UNREAD, LINE)], [None, None, (0,)])
        self.assertEqual([size_of(least_with(LINE, many)) for many in range(1, 7)], [1, 2, 3, 4, 5, 6])
        self.assertEqual([size_of(least_with(LEAVES, many)) for many in range(1, 7)], [1, 1, 3, 3, 5, 5])
        self.assertEqual([least_with(TWO, 2), least_with(TWO, 3)], [(0,), None])

    def test_greatest(self):
        seen = 0
        for table in [*some_tables(80), *lively_tables(150)]:
            if growth(table) == "bounded":
                number, program = greatest_readings(table)
                if number == 0:
                    self.assertIsNone(program)
                    self.assertEqual(cut_tallies(table, 1), {})
                    continue
                self.assertEqual(sum(readings_many(table, program, {})), number)
                most = {}
                for other in brute.some_programs(table, 6, 250):
                    most.setdefault(sum(readings_many(table, other, {})), size_of(other))
                self.assertLessEqual(max(most, default=0), number)
                self.assertLessEqual(size_of(program), most.get(number, 10 ** 6))
                seen += number > 2
            else:
                with self.assertRaises(Unbounded) as told:
                    greatest_readings(table)
                self.assertEqual(told.exception.found, growth_paper(table)[1])
        self.assertGreater(seen, 5)
        self.assertEqual([greatest_readings(BARE), greatest_readings(UNREAD)], [(0, None), (0, None)])

    def test_many_steps_to_the_greatest(self):
        # Each sign doubles, but none may stand below itself.
        entries = ((0, (), 0), (1, (0, 0), 1), (1, (0, 0), 2), (2, (1, 1), 3), (2, (1, 2), 3), (2, (2, 1), 3), (2, (2, 2), 3))
        table = (4, (0, 2, 2), entries)
        self.assertEqual(greatest_readings(table), (4, (2, (1, (0,), (0,)), (1, (0,), (0,)))))

    def test_just_six_hundred(self):
        for table, most in ((SIX_HUNDRED, 6), (ALSO, 4)):
            told = cut_tallies(table, most)
            self.assertEqual(len(told), 600)
            self.assertEqual(list(told), sorted(told))
            for tally in list(told)[::7]:
                if size_of(told[tally]) < 5000:
                    self.assertEqual(tally_of(table, told[tally], most), tally)
        self.assertGreaterEqual(sum(readings_many(SIX_HUNDRED, least_with(SIX_HUNDRED, 6), {})), 6)
        self.assertEqual(len(cut_tallies(lone(600), 2)), 600)
        self.assertEqual(greatest_readings(lone(600))[0], 9)

    def test_more_than_six_hundred(self):
        for call in (lambda: cut_tallies(lone(601), 1), lambda: least_with(lone(601), 1), lambda: greatest_readings(lone(601)),
                     lambda: cut_tallies(ALSO, 5), lambda: least_with(ALSO, 6)):
            for _ in range(2):
                with self.assertRaises(TooMany) as told:
                    call()
                self.assertEqual(told.exception.most, 600)
        wide = (10, (*lone(601)[1], 2), tuple(sorted([*lone(601)[2], *((601, (0, kind), 0) for kind in range(10))])))
        with self.assertRaises(Unbounded):
            greatest_readings(wide)
        with self.assertRaises(TooMany):
            least_with(wide, 1)

    def test_by_sizes_against_the_definition(self):
        seen = 0
        for table in [*some_tables(120), *lively_tables(80)]:
            memo = {}
            for number, programs, readings in by_sizes(table, 7):
                rows = brute.programs_of_size(table, number, memo)
                if len(rows) > 400:
                    break
                many = [sum(readings_many(table, program, {})) for program in rows]
                self.assertEqual([programs, readings], [len([one for one in many if one]), sum(many)])
                seen += readings > programs > 1
        self.assertGreater(seen, 60)

    def test_by_sizes_examples(self):
        self.assertEqual([by_sizes(LINE, 0), by_sizes(BARE, 0), by_sizes(BARE, 2)], [[], [], [(1, 0, 0), (2, 0, 0)]])
        self.assertEqual(by_sizes(LINE, 30), [(number, 1, number) for number in range(1, 31)])
        self.assertEqual(by_sizes(LEAVES, 5), [(1, 1, 2), (2, 0, 0), (3, 1, 4), (4, 0, 0), (5, 2, 16)])
        told = by_sizes(LEAVES, 30)
        catalan = [1]
        for number in range(1, 15):
            catalan.append(sum(catalan[first] * catalan[number - 1 - first] for first in range(number)))
        self.assertEqual(told[28], (29, catalan[14], catalan[14] * 2 ** 15))
        self.assertEqual([len(told), told[29]], [30, (30, 0, 0)])
        self.assertEqual([len(by_sizes(PAIRS, size)) for size in range(31)], list(range(31)))

    def test_called_twice(self):
        for call in (lambda: cut_tallies(PAIRS, 2), lambda: by_sizes(PAIRS, 9), lambda: least_with(PAIRS, 4),
                     lambda: greatest_readings(TWO)):
            first, again = call(), call()
            spoil(first)
            self.assertEqual(call(), again)
            self.assertEqual(repr(call()), repr(again))


if __name__ == "__main__":
    unittest.main()
