"""[26], with [5], STATE of [2], and the words ahead of [26]: states and steps."""

import itertools
import unittest

from pinsenough.errors import TooMany
from pinsenough.forms import is_state
from pinsenough.needs import gains
from pinsenough.programs import filled, hole_of, size_of
from pinsenough.pumping import laid_in
from pinsenough.states import examples, led_on, led_state, state_of, states_of, steps_of
import brute
from brute import BARE, LEAVES, LINE, PAIRS, UNREAD, layered_tables, lively_tables, nest, some_tables, spoil
from test_needs import MANY, cases, leafy

# Just forty states, and one more.
FORTY = (4, (0, 0, 2),
         ((1, (), 0), (2, (0, 0), 1), (2, (0, 0), 3), (2, (0, 1), 1), (2, (1, 0), 3), (2, (1, 1), 0), (2, (1, 3), 0),
          (2, (2, 1), 3), (2, (2, 2), 0), (2, (2, 2), 3), (2, (3, 0), 0), (2, (3, 0), 2), (2, (3, 1), 2), (2, (3, 2), 1),
          (2, (3, 3), 0)))
MORE = (4, (0, 2),
        ((0, (), 3), (1, (0, 0), 3), (1, (0, 1), 2), (1, (0, 2), 3), (1, (1, 0), 3), (1, (1, 1), 0), (1, (1, 2), 2),
         (1, (1, 2), 3), (1, (1, 3), 0), (1, (1, 3), 2), (1, (2, 1), 1), (1, (2, 2), 1), (1, (3, 0), 3), (1, (3, 1), 1),
         (1, (3, 1), 3), (1, (3, 3), 1)))
TABLES = [LINE, LEAVES, PAIRS, MANY, *some_tables(25), *lively_tables(40, 0, 4), *layered_tables(15)]


def at_most_forty(table):
    try:
        states_of(table)
    except TooMany:
        return False
    return True


def parts_of(program, reading):
    """The programs and the readings at the parts of the top."""
    found, behind = [], 1
    for part in program[1:]:
        width = len(brute.nodes_of(part))
        found.append((part, reading[behind:behind + width]))
        behind += width
    return found


def slow_state(table, program, reading):
    return brute.state_of(table, brute.readings_of(table, program), reading)


def slow_step(table, program, reading):
    """The step at the top, told by going through all places."""
    parts = parts_of(program, reading)
    entry = (program[0], tuple(row[0] for _, row in parts), reading[0])
    states = tuple(slow_state(table, part, row) for part, row in parts)
    needs = [brute.costs_of(table, brute.readings_of(table, part), row)[()] for part, row in [(program, reading), *parts]]
    return (entry, states, slow_state(table, program, reading), needs[0] - sum(needs[1:]))


class StatesTest(unittest.TestCase):
    def test_state_of(self):
        seen = set()
        for table in filter(at_most_forty, TABLES):
            states = states_of(table)
            for _, program, readings, reading in cases([table], 5, 12, 3):
                told = state_of(table, program, reading)
                self.assertEqual(told, brute.state_of(table, readings, reading))
                self.assertTrue(is_state(table, told))
                self.assertIn(told, states)
                seen.add(told)
        self.assertGreater(len(seen), 25)

    def test_all_states_have_examples(self):
        """No state is told that does not come about, and none that comes about is missed."""
        checked = 0
        for table in filter(at_most_forty, TABLES):
            told = states_of(table)
            self.assertEqual(told, sorted(set(told)))
            shown = examples(table)
            self.assertEqual(list(shown), told)
            for state, (program, reading) in shown.items():
                self.assertTrue(brute.is_reading(table, program, reading))
                if size_of(program) <= 9 and len(brute.readings_of(table, program)) < 100:
                    self.assertEqual(slow_state(table, program, reading), state)
                    checked += 1
                else:
                    self.assertEqual(state_of(table, program, reading), state)
        self.assertGreater(checked, 200)

    def test_examples_are_least(self):
        for table in filter(at_most_forty, TABLES):
            shown = examples(table)
            least = {}
            for size in range(1, 6):
                for program in brute.programs_of_size(table, size)[:8]:
                    for reading in brute.readings_of(table, program)[:4]:
                        least.setdefault(state_of(table, program, reading), size)
            for state, size in least.items():
                self.assertLessEqual(size_of(shown[state][0]), size)
        self.assertEqual([size_of(program) for program, _ in examples(LINE).values()], [1, 2, 3, 2])
        self.assertEqual(examples(LEAVES), {(0, ()): ((1, (0,), (0,)), (0, 0, 0)), (0, ((1,),)): ((0,), (0,)),
                                            (1, ((0,),)): ((0,), (1,))})

    def test_steps(self):
        gains_seen = set()
        for table in list(filter(at_most_forty, TABLES))[:90]:
            told = steps_of(table)
            self.assertEqual(told, sorted(set(told)))
            states, shown = states_of(table), examples(table)
            wanted = [(entry, row) for entry in table[2]
                      for row in itertools.product(states, repeat=len(entry[1])) if tuple(state[0] for state in row) == entry[1]]
            self.assertEqual([step[:2] for step in told], wanted)
            for entry, row, state, gain in told[::max(1, len(told) // 12)]:
                parts = [shown[part] for part in row]
                program = (entry[0], *(part[0] for part in parts))
                reading = (entry[2], *(kind for part in parts for kind in part[1]))
                if size_of(program) <= 9 and len(brute.readings_of(table, program)) < 60:
                    self.assertEqual(slow_step(table, program, reading), (entry, row, state, gain))
                    gains_seen.add(gain)
                self.assertEqual(led_on(table, entry, row), (state, gain))
        self.assertTrue({-1, 0, 1} <= gains_seen)

    def test_states_hang_on_the_parts_alone(self):
        """[5]: two programs with the same entry at the top and the same states below have the same state and gain."""
        for table in (MANY, PAIRS, *lively_tables(25, 700, 4)):
            if at_most_forty(table):
                found = {}
                for program in brute.some_programs(table, 5, 30):
                    for reading in brute.readings_of(table, program)[:4]:
                        entry, states, state, gain = slow_step(table, program, reading)
                        self.assertEqual(found.setdefault((entry, states), (state, gain)), (state, gain))
                told = {step[:2]: step[2:] for step in steps_of(table)}
                self.assertEqual({key: told[key] for key in found}, found)

    def test_led_state(self):
        seen = set()
        for table in filter(at_most_forty, [MANY, PAIRS, LINE, LEAVES, *lively_tables(15, 900, 4)]):
            shown = examples(table)
            contexts = {context for program in brute.some_programs(table, 4, 8) for context in brute.contexts_of(program)}
            for context in sorted(contexts, key=repr)[:7]:
                hole = hole_of(context)
                for reading in brute.readings_of(table, context)[:4]:
                    for state in [state for state in shown if state[0] == reading[hole]][:3]:
                        program, inner = shown[state]
                        whole, row = filled(context, program), laid_in(context, reading, inner)
                        gained = sum(gains(table, whole, row)) - sum(gains(table, program, inner))
                        told = led_state(table, context, reading, state)
                        self.assertEqual(told, (state_of(table, whole, row), gained))
                        if context is None:
                            self.assertEqual(told, (state, 0))
                        seen.add(gained)
        self.assertGreater(len(seen), 2)

    def test_no_reading(self):
        for table in (BARE, UNREAD):
            self.assertEqual([states_of(table), steps_of(table), examples(table)], [[], [], {}])

    def test_just_forty_and_more(self):
        self.assertEqual(len(states_of(FORTY)), 40)
        self.assertEqual([len(examples(FORTY)), len({step[2] for step in steps_of(FORTY)})], [40, 40])
        self.assertEqual(state_of(FORTY, (1,), (0,)), (0, ()))
        for call in (lambda: states_of(MORE), lambda: steps_of(MORE), lambda: examples(MORE), lambda: state_of(MORE, (0,), (3,)),
                     lambda: led_on(MORE, (0, (), 3), ()), lambda: led_state(MORE, None, (3,), (3, ()))):
            for _ in range(2):
                with self.assertRaises(TooMany) as told:
                    call()
                self.assertEqual(told.exception.most, 40)

    def test_greater_than_forty(self):
        self.assertEqual(state_of(LEAVES, leafy(900), (0,) * 1799), (0, ()))
        chain = nest(None, 1500, lambda part: (1, part))
        self.assertEqual(led_state(LINE, chain, (1,) * 9 + (0,) * 1492, (0, ())), ((1, ()), 2))
        self.assertEqual(led_state(LINE, chain, (1,) * 1500 + (0,), (0, ((1,),))), ((1, ()), 1))

    def test_called_twice(self):
        for call in (lambda: states_of(PAIRS), lambda: steps_of(PAIRS), lambda: examples(PAIRS), lambda: state_of(LINE, (1, (0,)), (1, 0)),
                     lambda: led_on(LINE, (1, (1,), 1), ((1, ((0,),)),)), lambda: led_state(LINE, (1, None), (1, 0), (0, ()))):
            first, again = call(), call()
            spoil(first)
            self.assertEqual(call(), again)
            self.assertEqual(repr(call()), repr(again))


if __name__ == "__main__":
    unittest.main()
