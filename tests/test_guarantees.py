"""[1] to [10] over the whole program: what is told hangs together, and comes with something that can be checked."""

import random
import unittest
from fractions import Fraction

from pinsenough.alike import basis_of, is_basis, numbers_of
from pinsenough.asks import fewest_asks
from pinsenough.beside import harmed, harmless_paper, is_harmless_paper, with_entries
from pinsenough.errors import NoReading, TooMany
from pinsenough.greatest import greatest_need, heights, is_height_paper, neediest
from pinsenough.growth import growth, growth_paper, is_growth_paper
from pinsenough.live import Live
from pinsenough.made import least_programs
from pinsenough.manyreads import greatest_readings, least_with
from pinsenough.needs import gains, need
from pinsenough.leastpins import least_pins
from pinsenough.places import least_places
from pinsenough.programs import filled, size_of
from pinsenough.pumping import pumped
from pinsenough.rates import is_rate_paper, is_rate_round, rate, rate_paper, rate_round
from pinsenough.readings import readings_many, readings_of
from pinsenough.rounds import shifting_round, twofold_round
from pinsenough.states import led_on, state_of, states_of
from pinsenough.sure import clashing, is_sure_paper, sure_paper
from pinsenough.sureleast import least_sure_lots, written_nodes
import brute
from brute import BARE, LEAVES, LINE, MIXED, PAIRS, UNREAD, layered_tables, lively_tables, some_tables
from test_growth import TWO
from test_needs import MANY
from test_rounds import APART_ENDS, BOTH, SIDE_SHIFT
from test_states import at_most_forty, parts_of

TABLES = [table for table in [LINE, LEAVES, MIXED, PAIRS, BARE, UNREAD, TWO, MANY, BOTH, SIDE_SHIFT, APART_ENDS, *some_tables(40),
                              *lively_tables(80, 0, 4), *layered_tables(60)] if at_most_forty(table)]


def read_programs(table, size, most):
    return [program for program in brute.some_programs(table, size, most) if any(readings_many(table, program, {}))]


def raises_too_many(call):
    try:
        call()
    except TooMany:
        return True
    return False


class GuaranteesTest(unittest.TestCase):
    def test_each_result_can_be_checked(self):
        """[1]: papers, rounds and programs, each judged again."""
        for table in TABLES:
            self.assertTrue(is_growth_paper(table, growth_paper(table)))
            self.assertTrue(is_rate_paper(table, rate(table), rate_paper(table)))
            if growth(table) == "doubling":
                self.assertTrue(is_rate_round(table, rate_round(table)))
                self.assertGreater(rate(table), (0, 1))
            else:
                self.assertTrue(is_height_paper(table, heights(table)))
                self.assertEqual([rate(table), rate_round(table)], [(0, 1), None])
                if states_of(table):
                    self.assertEqual(need(table, *neediest(table)), greatest_need(table))
            for lot in ((), *least_sure_lots(table)):
                paper, found = sure_paper(table, lot), clashing(table, lot)
                self.assertTrue((paper is None) != (found is None))
                self.assertTrue(found is not None or is_sure_paper(table, lot, paper))
            more = table[2][::2]
            less = (table[0], table[1], table[2][1::2])
            if not raises_too_many(lambda: harmed(less, more)):
                self.assertEqual(with_entries(less, more), table)
                paper, found = harmless_paper(less, more), harmed(less, more)
                self.assertTrue((paper is None) != (found is None))
                self.assertTrue(found is not None or is_harmless_paper(less, more, paper))
            self.assertTrue(is_basis(less, table, basis_of(less, table)))

    def test_one_machine(self):
        """[5]: gains and states hang only on the entry at the top and the states below; needs are their sums."""
        rng = random.Random(5)
        for table in TABLES:
            for program in read_programs(table, 6, 25)[::3]:
                reading = rng.choice(readings_of(table, program, {})[:20])
                parts = parts_of(program, reading)
                entry = (program[0], tuple(row[0] for _, row in parts), reading[0])
                state, gain = led_on(table, entry, tuple(state_of(table, part, row) for part, row in parts))
                self.assertEqual([state, gain], [state_of(table, program, reading), gains(table, program, reading)[0]])
                self.assertEqual(need(table, program, reading), gain + sum(need(table, part, row) for part, row in parts))
                self.assertEqual(len(least_pins(table, program, reading)), need(table, program, reading))

    def test_enough(self):
        """[6]: with a twofold round needs grow as the size does, otherwise there is a greatest one."""
        for table in TABLES:
            found = twofold_round(table)
            if found is None:
                most = greatest_need(table)
                for program in read_programs(table, 6, 25):
                    self.assertTrue(all(need(table, program, reading) <= most for reading in readings_of(table, program, {})[:9]))
            else:
                least = least_programs(table)[found[1][0]]
                reading = [row for row in readings_of(table, least, {}) if row[0] == found[1][0]][0]
                for many in (0, 2, 5):
                    program, readings = pumped(found, many, least, reading) if many else (least, [reading])
                    self.assertLessEqual(size_of(program), (size_of(found[0]) + size_of(least)) * (many + 1))
                    self.assertEqual([len(readings), len({row[0] for row in readings})], [2 ** many, 1])
                    self.assertTrue(all(need(table, program, row) >= many for row in readings))

    def test_how_much(self):
        """[7]: needs are at most the rate times the size and the fraction of the state."""
        for table in TABLES:
            told, paper = Fraction(*rate(table)), rate_paper(table)
            for program in read_programs(table, 7, 30):
                for reading in readings_of(table, program, {})[:6]:
                    worth = Fraction(*paper[state_of(table, program, reading)])
                    self.assertLessEqual(need(table, program, reading), told * size_of(program) + worth)

    def test_three_growths(self):
        """[8]: with no round few places and few asks are always enough; with shifting rounds they become more and more."""
        seen = {}
        for table in TABLES:
            told = growth(table)
            seen[told] = seen.get(told, 0) + 1
            if told == "bounded" and not raises_too_many(lambda: greatest_readings(table)):
                most, _ = greatest_readings(table)
                for program in read_programs(table, 7, 40):
                    many = sum(readings_many(table, program, {}))
                    self.assertLessEqual(many, most)
                    if many <= 12:
                        self.assertLess(fewest_asks(table, program), max(most, 1))
                    if many <= 24:
                        self.assertLess(len(least_places(table, program)), max(most, 1))
            if told != "bounded" and not raises_too_many(lambda: least_with(table, 6)):
                self.assertGreaterEqual(sum(readings_many(table, least_with(table, 6), {})), 6)
        self.assertTrue(min(seen.values()) > 5 and len(seen) == 3, seen)

    def test_places_for_all_grow_with_shifting_rounds(self):
        """[8]: but for each reading alone a fixed number is enough."""
        checked = 0
        for table in TABLES:
            found = shifting_round(table)
            if found is None or growth(table) != "powers":
                continue
            low, high = found[3][0], found[3][found_hole(found)]
            least = least_programs(table)[high]
            reading = [row for row in readings_of(table, least, {}) if row[0] == high][0]
            places, most = [], greatest_need(table)
            for many in (1, 2, 3, 5, 8):
                program, readings = pumped(found, many, least, reading)
                self.assertEqual([len(readings), {row[0] for row in readings}], [many + 1, {low, high}])
                self.assertTrue(all(need(table, program, row) <= most for row in readings))
                if sum(readings_many(table, program, {})) <= 24:
                    places.append(len(least_places(table, program)))
            self.assertEqual(places, sorted(places))
            if len(places) == 5:
                self.assertGreater(places[-1], places[0])
                checked += 1
        self.assertGreater(checked, 3)
        chain = filled((1, (1, (1, (1, None)))), (1, (1, (1, (1, (0,))))))
        self.assertEqual([greatest_need(LINE), len(least_places(LINE, chain)), fewest_asks(LINE, chain)], [2, 8, 4])

    def test_pinned_signs(self):
        """[9]: written at the top and at all nodes of a sure lot, no program has more than one reading left."""
        for table in TABLES[::2]:
            for program in read_programs(table, 6, 20):
                for lot in least_sure_lots(table):
                    for reading in readings_of(table, program, {})[:5]:
                        pins = {node: reading[node] for node in written_nodes(program, lot)}
                        self.assertEqual(readings_of(table, program, pins), [reading])
                        live = Live(table, program)
                        for node, kind in pins.items():
                            live.pin(node, kind)
                        self.assertEqual([live.meant(), live.add_duty(("one",))], [reading, None])

    def test_more_entries(self):
        """[10]: numbers of all programs are told by those of a few."""
        for table in TABLES[::3]:
            less = (table[0], table[1], table[2][::2])
            basis = basis_of(less, table)
            self.assertLessEqual(len(basis), 2 * table[0])
            for program in brute.some_programs(table, 6, 12):
                if any(numbers_of(less, table, program)):
                    self.assertIs(is_basis(less, table, (*basis, program)), False)

    def test_errors_in_their_order(self):
        """[4]: of several errors the first that is listed is raised."""
        for call in (least_places, fewest_asks):
            with self.assertRaises(NoReading):
                call(UNREAD, (1, (0,), (0,)))


def found_hole(found):
    """The node of the hole of a round."""
    return [top is None for top in brute.nodes_of(found[0])].index(True)


if __name__ == "__main__":
    unittest.main()
