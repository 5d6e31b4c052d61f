"""[28], with [7] and FRACTION of [2]: the rate, and what shows that it is neither greater nor less."""

import math
import unittest
from fractions import Fraction

from pinsenough.errors import TooMany
from pinsenough.forms import is_state
from pinsenough.greatest import heights
from pinsenough.needs import gains, need
from pinsenough.programs import filled, hole_of, size_of
from pinsenough.pumping import laid_in, piled
from pinsenough.rates import is_rate_paper, is_rate_round, rate, rate_paper, rate_round
from pinsenough.rounds import twofold_round
from pinsenough.states import examples, led_state, state_of, states_of, steps_of
import brute
from brute import BARE, LEAVES, LINE, PAIRS, UNREAD, any_values, exchanged, layered_tables, lively_tables, some_tables, spoil
from test_growth import TWO
from test_rounds import APART_ENDS, BOTH, SIDE_SHIFT
from test_states import FORTY, MORE, at_most_forty

TABLES = [table for table in [LINE, LEAVES, PAIRS, BARE, UNREAD, TWO, SIDE_SHIFT, APART_ENDS, BOTH, FORTY, *some_tables(40),
                              *lively_tables(150, 0, 4), *layered_tables(60)] if at_most_forty(table)]
FREE = [table for table in TABLES if twofold_round(table) is not None]
# Each time its round is gone, one place and three nodes come about.
WIDE = (3, (0, 1, 2), ((0, (), 0), (0, (), 1), (1, (0,), 2), (1, (1,), 2), (2, (2, 0), 0), (2, (2, 1), 1)))


def is_fraction(thing):
    return (type(thing) is tuple and len(thing) == 2 and all(type(part) is int for part in thing)
            and thing[1] > 0 and math.gcd(*thing) == 1)


def slow_paper(table, fraction, thing):
    """By the definition; steps_of is held against it elsewhere."""
    if type(thing) is not dict or sorted(map(repr, thing)) != sorted(map(repr, states_of(table))):
        return False
    if not all(is_fraction(worth) for worth in thing.values()):
        return False
    return all(gain - Fraction(*fraction) + sum(Fraction(*thing[part]) for part in states) <= Fraction(*thing[state])
               for _, states, state, gain in steps_of(table))


def is_context(table, thing, holes):
    """By the definition, as long as few parts are nested; holes is how many there have to be."""
    waiting, found = [thing], 0
    while waiting:
        top = waiting.pop()
        if top is None:
            found += 1
        elif type(top) is tuple and top and type(top[0]) is int and 0 <= top[0] < len(table[1]):
            if len(top) != 1 + table[1][top[0]]:
                return False
            waiting.extend(top[1:])
        else:
            return False
    return found == holes


def slow_round(table, thing):
    """By the words of [28], the gain being told by a program that stands in the hole."""
    num, den = rate(table)
    if num <= 0 or type(thing) is not tuple or len(thing) != 3:
        return False
    context, reading, state = thing
    if context is None or not is_context(table, context, 1) or not brute.is_reading(table, context, reading):
        return False
    shown = examples(table)
    if repr(state) not in [repr(other) for other in shown] or state[0] != reading[hole_of(context)]:
        return False
    program, inner = shown[state]
    whole, row = filled(context, program), laid_in(context, reading, inner)
    gained = sum(gains(table, whole, row)) - sum(gains(table, program, inner))
    return state_of(table, whole, row) == state and Fraction(gained, size_of(context)) == Fraction(num, den)


class RatesTest(unittest.TestCase):
    def test_rate_is_shown_from_both_sides(self):
        """A paper shows that no rate above is needed, a round that none below will do."""
        seen = {}
        for table in TABLES:
            told, paper, found = rate(table), rate_paper(table), rate_round(table)
            self.assertTrue(is_fraction(told) and (0, 1) <= told and told[0] <= told[1])
            self.assertEqual(list(paper), states_of(table))
            self.assertTrue(slow_paper(table, told, paper))
            self.assertIs(is_rate_paper(table, told, paper), True)
            self.assertEqual([told == (0, 1), found is None], [twofold_round(table) is None] * 2)
            if found is not None:
                self.assertTrue(slow_round(table, found))
                self.assertIs(is_rate_round(table, found), True)
            seen[told] = seen.get(told, 0) + 1
        self.assertTrue({(0, 1), (1, 1), (1, 2), (1, 3), (2, 3), (1, 4), (3, 4)} <= set(seen), seen)

    def test_no_paper_for_less(self):
        """By the round, no dict can be a paper for less: along it the fractions would have to rise."""
        for table in FREE:
            num, den = rate(table)
            paper = rate_paper(table)
            for less in ((num * 7 - 1, den * 7), (0, 1), (-1, 1)):
                less = (less[0] // math.gcd(*less), less[1] // math.gcd(*less))
                self.assertIs(is_rate_paper(table, less, paper), False)
            for more in ((num + den, den), (5, 1), (10 ** 39, 1)):
                self.assertIs(is_rate_paper(table, more, paper), True)

    def test_paper_without_twofold_round(self):
        for table in TABLES:
            if rate(table) == (0, 1):
                as_fractions = {state: (number, 1) for state, number in heights(table).items()}
                self.assertTrue(is_rate_paper(table, (0, 1), as_fractions))
                least = rate_paper(table)
                self.assertTrue(all(Fraction(*least[state]) <= number for state, number in heights(table).items()))

    def test_needs_go_no_higher(self):
        """[7]: each need is at most the rate times the size, and the fraction of its state."""
        near = 0
        for table in TABLES[::2]:
            told, paper = Fraction(*rate(table)), rate_paper(table)
            for program in brute.some_programs(table, 6, 40):
                readings = brute.readings_of(table, program)
                for reading in readings[:6] if len(readings) < 40 else []:
                    costs = brute.costs_of(table, readings, reading)
                    state = (reading[0], tuple(lot for lot in costs if costs[lot] < costs[()]))
                    bound = told * size_of(program) + Fraction(*paper[state])
                    self.assertLessEqual(costs[()], bound)
                    near += costs[()] == bound > 0
        self.assertGreater(near, 100)

    def test_needs_grow_along_the_round(self):
        """[7]: the round, gone again and again, gains the rate times its size each time."""
        checked = 0
        for table in FREE:
            context, reading, state = rate_round(table)
            program, inner = examples(table)[state]
            before, size, told = need(table, program, inner), size_of(context), Fraction(*rate(table))
            row = inner
            for many in (1, 2, 3):
                row = laid_in(context, reading, row)
                if size < 15:
                    whole = filled(piled(context, many), program)
                    self.assertTrue(brute.is_reading(table, whole, row))
                    self.assertEqual(need(table, whole, row), before + many * told * size)
                    checked += 1
        self.assertGreater(checked, 150)

    def test_examples(self):
        self.assertEqual([rate(LINE), rate_round(LINE), rate_paper(LINE)],
                         [(0, 1), None, {(0, ()): (0, 1), (0, ((1,),)): (1, 1), (1, ()): (2, 1), (1, ((0,),)): (2, 1)}])
        self.assertEqual([rate(BARE), rate_round(BARE), rate_paper(BARE), is_rate_paper(BARE, (0, 1), {})], [(0, 1), None, {}, True])
        self.assertEqual([rate(UNREAD), rate_round(UNREAD), rate_paper(UNREAD)], [(0, 1), None, {}])
        self.assertEqual([rate(LEAVES), rate(BOTH), rate(WIDE)], [(1, 2), (1, 1), (1, 3)])
        self.assertTrue(is_rate_round(LEAVES, ((1, None, (0,)), (0, 0, 1), (0, ()))))
        self.assertTrue(is_rate_round(LEAVES, ((1, (0,), None), (0, 1, 0), (0, ()))))
        self.assertTrue(is_rate_round(LEAVES, ((1, (1, None, (0,)), (0,)), (0, 0, 0, 1, 1), (0, ()))))
        half = {(0, ()): (1, 2), (0, ((1,),)): (1, 2), (1, ((0,),)): (1, 2)}
        self.assertEqual([is_rate_paper(LEAVES, (1, 2), half), is_rate_paper(LEAVES, (1, 3), half)], [True, False])

    def test_just_forty_and_more(self):
        self.assertEqual([len(states_of(FORTY)), len(rate_paper(FORTY)), is_rate_round(FORTY, rate_round(FORTY))], [40, 40, True])
        for call in (rate, rate_paper, rate_round, lambda table: is_rate_paper(table, (1, 1), {}), lambda table: is_rate_paper(table, (1, 1), 0),
                     lambda table: is_rate_round(table, None), lambda table: is_rate_round(table, (None, (0,), (0, ())))):
            for _ in range(2):
                with self.assertRaises(TooMany) as told:
                    call(MORE)
                self.assertEqual(told.exception.most, 40)

    def test_a_context_above_forty(self):
        context, reading = piled((1, None, (0,)), 300), (0,)
        for _ in range(300):
            reading = (0, *reading, 1)
        self.assertEqual([size_of(context), led_state(LEAVES, context, reading, (0, ()))], [600, ((0, ()), 300)])
        self.assertIs(is_rate_round(LEAVES, (context, reading, (0, ()))), True)
        self.assertIs(is_rate_round(LEAVES, (context, (1, *reading[1:]), (0, ()))), False)

    def test_any_value(self):
        for table in (LINE, LEAVES, BARE, TWO, BOTH):
            for value in any_values():
                self.assertIs(is_rate_paper(table, (1, 2), value), slow_paper(table, (1, 2), value))
                self.assertIs(is_rate_round(table, value), False)
                for part in range(3):
                    thing = [(1, None), (0, 0), (0, ())]
                    thing[part] = value
                    self.assertIs(is_rate_round(table, tuple(thing)), slow_round(table, tuple(thing)))

    def test_papers_that_are_none(self):
        right = {(0, ()): (1, 2), (0, ((1,),)): (1, 2), (1, ((0,),)): (1, 2)}
        self.assertIs(is_rate_paper(LEAVES, (1, 2), dict(reversed(list(right.items())))), True)
        for state in right:
            self.assertIs(is_rate_paper(LEAVES, (1, 2), {other: right[other] for other in right if other != state}), False)
            for value in ((2, 4), (1, 0), (-1, -2), (1, -2), (0, 2), (0, 0), 1, 0, True, None, "12", [1, 2], (1,), (1, 2, 1), (True, 2), (1, True),
                          (False, 1), ((1, 2),), (1, "2"), {1: 2}):
                self.assertIs(is_rate_paper(LEAVES, (1, 2), {**right, state: value}), False)
            for value in ((1, 2), (3, 2), (1, 1), (10 ** 39 + 1, 10 ** 39), (10 ** 39, 1)):
                told = is_rate_paper(LEAVES, (1, 2), {**right, state: value})
                self.assertIs(told, slow_paper(LEAVES, (1, 2), {**right, state: value}))
        for state in ((1, ()), (0, ((0,),)), (2, ()), (False, ()), (0, ((True,),)), "a", 0, None, (0,), (0, (), ())):
            for key in right:
                changed = {other: right[other] for other in right if other != key}
                self.assertIs(is_rate_paper(LEAVES, (1, 2), {**changed, state: (1, 2)}), False)
            added = {**right, state: (1, 2)}
            self.assertIs(is_rate_paper(LEAVES, (1, 2), added), slow_paper(LEAVES, (1, 2), added))

    def test_rounds_that_are_none(self):
        right = ((1, None, (0,)), (0, 0, 1), (0, ()))
        self.assertIs(is_rate_round(LEAVES, right), True)
        context, reading, state = right
        for thing in ((None, (0,), state), (None, reading, state), (context, reading), (*right, 0), list(right), (context, list(reading), state),
                      (context, reading, list(state)), (context, reading, (0, [])), (list(context), reading, state), (context, (0, 0, 2), state),
                      (context, (0, 1, 1), state), (context, (0, 0), state), (context, (False, 0, 1), state), (context, reading, (False, ())),
                      ((1, None, None), reading, state), ((1, (0,), (0,)), reading, state), (context, reading, (1, ())), (context, reading, (0, ((1,),))),
                      (context, (0, 0, 1), (1, ((0,),))), ((0,), (0,), state), (state, reading, context), ((True, None, (0,)), reading, state)):
            self.assertIs(is_rate_round(LEAVES, thing), False)
            self.assertIs(slow_round(LEAVES, thing), False)
        # It leads the state to itself, but there is no gain by the rate: the rate is 0, or the gain is less.
        self.assertEqual(led_state(LINE, (1, None), (1, 1), (1, ())), ((1, ()), 0))
        self.assertIs(is_rate_round(LINE, ((1, None), (1, 1), (1, ()))), False)
        slow = (2, (*BOTH[1], 1), (*BOTH[2], (2, (0,), 0), (2, (1,), 1)))
        self.assertEqual(rate(slow), (1, 1))
        self.assertIs(is_rate_round(slow, ((2, None), (0, 0), rate_round(slow)[2])), False)

    def test_a_state_that_does_not_come_about(self):
        """It is one by form, and led to itself with the gain of a round, but no reading has it."""
        table = (3, (0, 2, 2), ((0, (), 0), (0, (), 1), (1, (0, 2), 0), (1, (0, 2), 2), (1, (1, 2), 2), (1, (2, 0), 0), (1, (2, 0), 1),
                                (1, (2, 1), 0), (2, (0, 1), 0), (2, (0, 1), 1), (2, (1, 0), 1), (2, (1, 1), 0), (2, (1, 2), 0),
                                (2, (2, 2), 0)))
        self.assertEqual(rate(table), (1, 2))
        for reading, state in (((2, 0, 2), (2, ((0,), (0, 1)))), ((2, 1, 2), (2, ()))):
            self.assertTrue(is_state(table, state) and state not in states_of(table))
            self.assertEqual(led_state(table, (1, (0,), None), reading, state), (state, 1))
            self.assertIs(is_rate_round(table, ((1, (0,), None), reading, state)), False)

    def test_exchanged(self):
        right = 0
        for table in (LINE, LEAVES, WIDE, BOTH):
            for value in exchanged(rate_paper(table)):
                self.assertIs(is_rate_paper(table, rate(table), value), slow_paper(table, rate(table), value))
            for value in exchanged(rate_round(table)):
                told = is_rate_round(table, value)
                self.assertIs(told, slow_round(table, value))
                right += told
        self.assertGreater(right, 5)

    def test_called_twice(self):
        for table in (LINE, LEAVES, FORTY):
            for call in (rate, rate_paper, rate_round):
                first, again = call(table), call(table)
                spoil(first)
                self.assertEqual(repr(call(table)), repr(again))
            paper, found = rate_paper(table), rate_round(table)
            before = repr((table, paper, found))
            told = [(is_rate_paper(table, rate(table), paper), is_rate_round(table, found)) for _ in range(2)]
            self.assertEqual([told[0], repr((table, paper, found))], [told[1], before])


if __name__ == "__main__":
    unittest.main()
