"""[27], with [6] and [7]: the greatest need, and what shows that there is none greater."""

import unittest

from pinsenough.errors import Doubling, TooMany
from pinsenough.greatest import greatest_need, heights, is_height_paper, neediest
from pinsenough.growth import growth
from pinsenough.made import least_programs
from pinsenough.needs import greatest_of, need
from pinsenough.programs import size_of
from pinsenough.pumping import pumped
from pinsenough.readings import readings_many, readings_of
from pinsenough.rounds import is_twofold, twofold_round
from pinsenough.states import state_of, states_of, steps_of
import brute
from brute import (BARE, LEAVES, LINE, MIXED, PAIRS, UNREAD, any_values, exchanged, layered_tables,
                   lively_tables, some_tables, spoil)
from test_growth import TWO
from test_rounds import APART_ENDS, BOTH, SIDE, SIDE_SHIFT, UNMADE
from test_states import FORTY, MORE, at_most_forty

# A reading of its programs may need six places, but none more.
SIX = (4, (0, 1, 2, 2), ((0, (), 0), (0, (), 1), (0, (), 2), (0, (), 3), (1, (0,), 1), (1, (0,), 2), (1, (0,), 3), (1, (1,), 1),
                         (1, (1,), 2), (1, (2,), 2), (1, (2,), 3), (2, (1, 0), 1), (2, (1, 0), 2), (2, (1, 1), 3),
                         (2, (2, 0), 3), (3, (2, 2), 3), (3, (3, 0), 3)))
TABLES = [table for table in [LINE, LEAVES, MIXED, PAIRS, TWO, SIDE, SIDE_SHIFT, APART_ENDS, UNMADE, BOTH, SIX, *some_tables(40),
                              *lively_tables(120, 0, 4), *layered_tables(120)] if at_most_forty(table)]
BOUND = [table for table in TABLES if twofold_round(table) is None]
FREE = [table for table in TABLES if twofold_round(table) is not None]


def slow_paper(table, thing):
    """By the definition; steps_of is held against it elsewhere."""
    if type(thing) is not dict or any(type(number) is not int for number in thing.values()):
        return False
    if sorted(map(repr, thing)) != sorted(map(repr, states_of(table))):
        return False
    return all(gain + sum(thing[part] for part in states) <= thing[state] for _, states, state, gain in steps_of(table))


def seen_heights(table, size, most):
    """From each state to the greatest need of the readings of small programs, all places gone through."""
    found = {}
    for program in brute.some_programs(table, size, most):
        readings = brute.readings_of(table, program)
        for reading in readings if len(readings) < 30 else []:
            costs = brute.costs_of(table, readings, reading)
            state = (reading[0], tuple(lot for lot in costs if costs[lot] < costs[()]))
            found[state] = max(found.get(state, 0), costs[()])
    return found


class GreatestTest(unittest.TestCase):
    def test_heights(self):
        seen = {True: 0, False: 0}
        for table in BOUND:
            told = heights(table)
            self.assertEqual(list(told), states_of(table))
            self.assertTrue(slow_paper(table, told) and is_height_paper(table, told) is True)
            for state, number in seen_heights(table, 6, 60).items():
                self.assertLessEqual(number, told[state])
                seen[number == told[state]] += told[state] > 0
        self.assertGreater(seen[True], 60)
        self.assertLess(seen[False], seen[True])

    def test_each_height_is_reached(self):
        """Along the steps by which a height comes about, it comes about by a program."""
        for table in BOUND:
            told = heights(table)
            reached = {}
            for _ in range(len(told) + 1):
                for _, states, state, gain in steps_of(table):
                    if all(part in reached for part in states):
                        reached[state] = max(reached.get(state, -9), gain + sum(reached[part] for part in states))
            self.assertEqual(reached, told)

    def test_neediest(self):
        seen = {}
        for table in BOUND:
            found, most = neediest(table), greatest_need(table)
            if found is None:
                self.assertEqual([most, states_of(table)], [0, []])
                continue
            program, reading = found
            self.assertTrue(brute.is_reading(table, program, reading))
            self.assertEqual([need(table, program, reading), max(heights(table).values())], [most, most])
            readings = readings_of(table, program, {})
            if size_of(program) <= 9 and len(readings) < 60:
                self.assertEqual(brute.costs_of(table, readings, reading)[()], most)
            self.assertGreaterEqual(most, max((greatest_of(table, program)[0] for program in brute.some_programs(table, 6, 40)
                                               if any(readings_many(table, program, {}))), default=0))
            seen[most] = seen.get(most, 0) + 1
        self.assertTrue({0, 1, 2, 3, 6} <= set(seen), seen)

    def test_examples(self):
        self.assertEqual([greatest_need(BARE), neediest(BARE), heights(BARE), is_height_paper(BARE, {})], [0, None, {}, True])
        self.assertEqual([greatest_need(UNREAD), neediest(UNREAD), heights(UNREAD)], [0, None, {}])
        program, reading = neediest(LINE)
        self.assertEqual([program, need(LINE, program, reading)], [(1, (1, (0,))), 2])
        self.assertEqual([greatest_need(TWO), neediest(TWO)], [1, ((0,), (0,))])
        self.assertEqual([greatest_need(SIDE_SHIFT), growth(SIDE_SHIFT), greatest_need(SIX)], [1, "powers", 6])
        self.assertEqual(max(greatest_need(table) for table in BOUND), 6)

    def test_doubling(self):
        self.assertGreater(len(FREE), 30)
        for table in FREE:
            for call in (heights, greatest_need, neediest):
                with self.assertRaises(Doubling) as told:
                    call(table)
                self.assertTrue(is_twofold(table, told.exception.found))
            zeros = {state: 0 for state in states_of(table)}
            self.assertIs(is_height_paper(table, zeros), False)
            self.assertIs(is_height_paper(table, {state: 10 ** 39 for state in zeros}), False)

    def test_needs_grow_with_a_twofold_round(self):
        """[6]: 2 ** n readings, each of which needs at least n places."""
        for table in FREE[:60]:
            found = twofold_round(table)
            least = least_programs(table)[found[1][0]]
            reading = [row for row in readings_of(table, least, {}) if row[0] == found[1][0]][0]
            for many in (1, 4):
                program, readings = pumped(found, many, least, reading)
                self.assertTrue(all(need(table, program, row) >= many for row in readings))

    def test_needs_are_bounded_without_one(self):
        for table in (LINE, MIXED, SIDE_SHIFT, APART_ENDS, TWO):
            most = greatest_need(table)
            for program in brute.some_programs(table, 9, 80):
                if any(readings_many(table, program, {})):
                    self.assertLessEqual(greatest_of(table, program)[0], most)

    def test_more_than_forty_states(self):
        self.assertIsNotNone(twofold_round(MORE))
        for call in (heights, greatest_need, neediest, lambda table: is_height_paper(table, {}), lambda table: is_height_paper(table, 0)):
            with self.assertRaises(TooMany) as told:
                call(MORE)
            self.assertEqual(told.exception.most, 40)
        with self.assertRaises(Doubling):
            greatest_need(FORTY)
        self.assertFalse(is_height_paper(FORTY, {state: 0 for state in states_of(FORTY)}))

    def test_any_value(self):
        for table in (LINE, LEAVES, BARE, TWO, SIDE_SHIFT, PAIRS):
            for value in any_values():
                self.assertIs(is_height_paper(table, value), slow_paper(table, value))

    def test_papers_that_are_none(self):
        right = {(0, ()): 0, (0, ((1,),)): 1, (1, ()): 2, (1, ((0,),)): 2}
        self.assertIs(is_height_paper(LINE, right), True)
        self.assertIs(is_height_paper(LINE, dict(reversed(list(right.items())))), True)
        self.assertIs(is_height_paper(LINE, {**right, (1, ()): 10 ** 39}), True)
        for state in right:
            self.assertIs(is_height_paper(LINE, {other: right[other] for other in right if other != state}), False)
            for value in (right[state] - 1, True, False, None, "2", (2, 1), (right[state], 1), [right[state]]):
                self.assertIs(is_height_paper(LINE, {**right, state: value}), False)
        for state in ((1, [0]), (1, ((1,),)), (2, ()), (1, ((),)), (True, ()), (1, ((False,),)), (0, ((True,),)), "a", None, 0, ()):
            for key in right:
                changed = {other: right[other] for other in right if other != key}
                if not isinstance(state, tuple) or not any(isinstance(part, list) for part in state):
                    changed[state] = 2
                    self.assertIs(is_height_paper(LINE, changed), False)
                    added = {**right, state: 2}
                    self.assertIs(is_height_paper(LINE, added), slow_paper(LINE, added))

    def test_exchanged(self):
        right = 0
        for table in [LINE, TWO, SIDE_SHIFT, *[table for table in BOUND if 1 < len(states_of(table)) < 7][:8]]:
            for value in exchanged(heights(table)):
                self.assertIs(is_height_paper(table, value), slow_paper(table, value))
                right += is_height_paper(table, value)
        self.assertGreater(right, 30)

    def test_called_twice(self):
        for table in (LINE, TWO, SIDE_SHIFT):
            for call in (heights, greatest_need, neediest):
                first, again = call(table), call(table)
                spoil(first)
                self.assertEqual(call(table), again)
                self.assertEqual(repr(call(table)), repr(again))
            told = heights(table)
            before = repr(told)
            self.assertEqual([is_height_paper(table, told), is_height_paper(table, told), repr(told)], [True, True, before])


if __name__ == "__main__":
    unittest.main()
