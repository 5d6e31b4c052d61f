"""[21], with [6] and [8]: how readings grow, and what shows it."""

import unittest

from pinsenough.growth import growth, growth_paper, is_growth_paper
from pinsenough.made import least_programs
from pinsenough.manyreads import greatest_readings
from pinsenough.programs import hole_of, size_of
from pinsenough.pumping import pumped
from pinsenough.readings import readings_many, readings_of
from pinsenough.rounds import is_ranks, is_shifting, is_stays, is_twofold, ranks_of, shifting_round, stays_of, twofold_round
import brute
from brute import BARE, LEAVES, LINE, MIXED, PAIRS, UNREAD, any_values, exchanged, lively_tables, some_tables, spoil
from test_rounds import BOTH, NAMED, SIDE, SIDE_SHIFT, slow_ranks, slow_shifting, slow_stays, slow_twofold

TWO = (2, (0, 0, 2), ((0, (), 0), (0, (), 1), (1, (), 0), (2, (0, 1), 0)))
JUDGES = (slow_twofold, slow_shifting, slow_ranks, slow_stays)


def slow_paper(table, thing):
    if type(thing) is not tuple or not thing or type(thing[0]) is not str:
        return False
    wanted = {"doubling": (slow_twofold,), "powers": (slow_shifting, slow_ranks), "bounded": (slow_ranks, slow_stays)}
    judges = wanted.get(thing[0], ())
    return bool(judges) and len(thing) == 1 + len(judges) and all(judge(table, part) for judge, part in zip(judges, thing[1:]))


def most_readings(table, size):
    return max((sum(readings_many(table, program, {})) for program in brute.some_programs(table, size, 120)), default=0)


class GrowthTest(unittest.TestCase):
    def test_examples(self):
        self.assertEqual([growth(table) for table in (LINE, LEAVES, MIXED, PAIRS, BARE, UNREAD, SIDE, SIDE_SHIFT, BOTH, TWO)],
                         ["powers", "doubling", "powers", "doubling", "bounded", "bounded", "doubling", "powers", "doubling",
                          "bounded"])
        self.assertEqual([growth_paper(BARE), growth_paper(UNREAD)], [("bounded", {}, {})] * 2)
        self.assertEqual(growth_paper(LINE), ("powers", shifting_round(LINE), ranks_of(LINE)))
        self.assertEqual(growth_paper(TWO), ("bounded", ranks_of(TWO), stays_of(TWO)))
        self.assertEqual(growth_paper(BOTH), ("doubling", twofold_round(BOTH)))

    def test_papers(self):
        seen = {}
        for table in [*NAMED, *some_tables(80), *lively_tables(250)]:
            told, paper = growth(table), growth_paper(table)
            self.assertEqual(paper[0], told)
            self.assertTrue(slow_paper(table, paper) and is_growth_paper(table, paper) is True)
            seen[told] = seen.get(told, 0) + 1
        self.assertGreater(min(seen.values()), 10)
        self.assertEqual(sorted(seen), ["bounded", "doubling", "powers"])

    def test_other_papers(self):
        for table in [*NAMED, *lively_tables(60)]:
            parts = (twofold_round(table), shifting_round(table), ranks_of(table), stays_of(table))
            for word in ("doubling", "powers", "bounded", "Doubling", "", None, 0):
                for one in parts:
                    self.check(table, (word, one))
                    for other in parts:
                        self.check(table, (word, one, other))
                        self.check(table, [word, one, other])
            self.assertIs(is_growth_paper(table, growth_paper(table)), True)

    def check(self, table, value):
        self.assertIs(is_growth_paper(table, value), slow_paper(table, value), (table, value))

    def test_any_value(self):
        for table in NAMED:
            for value in [*any_values(), ("doubling",), ("powers",), ("bounded",), (True, {}, {}), ("bounded", {}, {}, {})]:
                self.assertIs(is_growth_paper(table, value), False)
                for word, many in (("doubling", 1), ("powers", 2), ("bounded", 2)):
                    self.check(table, (word, *[value] * many))

    def test_exchanged(self):
        right = 0
        for table in [LINE, BARE, TWO, SIDE, SIDE_SHIFT, *lively_tables(5)]:
            for value in exchanged(growth_paper(table)):
                self.check(table, value)
                right += is_growth_paper(table, value)
        self.assertGreater(right, 10)

    def test_doubling_makes_many_that_need_many(self):
        """[6]: 2 ** n readings of one kind, by a program whose size is at most a number times n + 1."""
        seen = 0
        for table in [LEAVES, SIDE, BOTH, PAIRS, *lively_tables(60)]:
            found = twofold_round(table)
            if found is not None:
                kind = found[1][0]
                least = least_programs(table)[kind]
                reading = [row for row in readings_of(table, least, {}) if row[0] == kind][0]
                for many in (1, 2, 5):
                    program, readings = pumped(found, many, least, reading)
                    self.assertEqual(size_of(program), size_of(least) + many * size_of(found[0]))
                    self.assertGreaterEqual(readings_many(table, program, {})[kind], 2 ** many)
                    self.assertEqual({row[0] for row in readings}, {kind})
                seen += 1
        self.assertGreater(seen, 20)

    def test_powers_grow_slowly(self):
        """[6], [8]: with shifting rounds alone readings grow without bound, but by powers."""
        seen = 0
        for table in [LINE, MIXED, SIDE_SHIFT, *lively_tables(150)]:
            if growth(table) == "powers":
                found = shifting_round(table)
                kind = found[2][0]
                least = least_programs(table)[kind]
                reading = [row for row in readings_of(table, least, {}) if row[0] == kind][0]
                for many in (1, 4, 8):
                    self.assertEqual(len(pumped(found, many, least, reading)[1]), many + 1)
                if table[1].count(2) == 0:
                    self.assertLess(most_readings(table, 12), 2 ** 11)
                seen += 1
        self.assertGreater(seen, 8)

    def test_bounded(self):
        """[8]: the greatest number of readings is one for all programs."""
        seen = 0
        for table in [TWO, *lively_tables(80)]:
            if growth(table) == "bounded":
                number, program = greatest_readings(table)
                self.assertLessEqual(most_readings(table, 7), number)
                self.assertEqual(sum(readings_many(table, program, {})), number)
                seen += 1
        self.assertGreater(seen, 20)

    def test_called_twice(self):
        for table in (LINE, LEAVES, TWO):
            first, again = growth_paper(table), growth_paper(table)
            spoil(first)
            self.assertEqual(growth_paper(table), again)
            before = repr(again)
            self.assertEqual([is_growth_paper(table, again), is_growth_paper(table, again), repr(again)], [True, True, before])

    def test_rounds_are_the_judges(self):
        self.assertEqual([is_twofold(LINE, None), is_shifting(LINE, None), is_ranks(LINE, None), is_stays(LINE, None)], [False] * 4)


if __name__ == "__main__":
    unittest.main()
