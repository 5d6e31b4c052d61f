"""[12], with [2] and [4]: whether any value is what a name says."""

import itertools
import unittest

from pinsenough.forms import (are_pins, are_places, is_context, is_integer, is_lot, is_program, is_reading,
                              is_state, is_table)
import brute
from brute import BARE, LEAVES, LINE, MIXED, PAIRS, any_values, exchanged, nest, some_tables


def whole(thing):
    return type(thing) is int


def kind_of(many, thing):
    return whole(thing) and 0 <= thing < many


def rises(row):
    return list(row) == sorted(set(row))


def slow_table(thing):
    if type(thing) is not tuple or len(thing) != 3 or not whole(thing[0]) or thing[0] < 1:
        return False
    many, signs, entries = thing
    if type(signs) is not tuple or type(entries) is not tuple or not all(kind_of(3, sign) for sign in signs):
        return False
    for entry in entries:
        if type(entry) is not tuple or len(entry) != 3 or not kind_of(len(signs), entry[0]):
            return False
        if type(entry[1]) is not tuple or len(entry[1]) != signs[entry[0]]:
            return False
        if not all(kind_of(many, kind) for kind in (*entry[1], entry[2])):
            return False
    return rises(entries)


def slow_program(table, thing):
    if type(thing) is not tuple or not thing or not kind_of(len(table[1]), thing[0]):
        return False
    return len(thing) == 1 + table[1][thing[0]] and all(slow_program(table, part) for part in thing[1:])


def slow_context(table, thing):
    if thing is None:
        return True
    if type(thing) is not tuple or not thing or not kind_of(len(table[1]), thing[0]):
        return False
    if len(thing) != 1 + table[1][thing[0]]:
        return False
    contexts = [part for part in thing[1:] if slow_context(table, part)]
    programs = [part for part in thing[1:] if slow_program(table, part)]
    return len(contexts) == 1 and len(programs) == len(thing) - 2


def slow_lot(table, thing):
    return type(thing) is tuple and all(kind_of(table[0], kind) for kind in thing) and rises(thing)


def slow_state(table, thing):
    if type(thing) is not tuple or len(thing) != 2 or not kind_of(table[0], thing[0]) or type(thing[1]) is not tuple:
        return False
    kind, cheap = thing
    if not all(slow_lot(table, lot) and lot and kind not in lot for lot in cheap) or not rises(cheap):
        return False
    others = [other for other in range(table[0]) if other != kind]
    lots = [lot for size in range(len(others) + 1) for lot in itertools.combinations(others, size)]
    return all(lot in cheap for lot in lots if any(set(less) <= set(lot) for less in cheap))


def states_by_form(table):
    found = []
    for kind in range(table[0]):
        others = [other for other in range(table[0]) if other != kind]
        lots = sorted(lot for size in range(1, len(others) + 1) for lot in itertools.combinations(others, size))
        for size in range(len(lots) + 1):
            found.extend((kind, cheap) for cheap in itertools.combinations(lots, size))
    return found


class FormsTest(unittest.TestCase):
    def check(self, told, wanted, thing):
        self.assertIs(told, wanted, repr(thing)[:200])

    def test_integer(self):
        for thing in any_values():
            self.check(is_integer(thing), whole(thing), thing)
        self.assertEqual([is_integer(0), is_integer(-10 ** 39), is_integer(True), is_integer("1")],
                         [True, True, False, False])

    def test_table(self):
        for table in some_tables(60):
            self.assertIs(is_table(table), True)
        for thing in any_values():
            self.check(is_table(thing), slow_table(thing), thing)
        for table in (LINE, LEAVES, PAIRS, BARE):
            for thing in exchanged(table):
                self.check(is_table(thing), slow_table(thing), thing)

    def test_table_edges(self):
        self.assertIs(is_table((1, (), ())), True)
        self.assertIs(is_table((1, (0,), ())), True)
        self.assertIs(is_table((0, (), ())), False)
        self.assertIs(is_table((True, (0,), ((0, (), 0),))), False)
        self.assertIs(is_table((1, (0,), ((0, (), 0), (0, (), 0)))), False)
        self.assertIs(is_table((2, (0,), ((0, (), 1), (0, (), 0)))), False)
        self.assertIs(is_table((2, (0,), ((0, (), 2),))), False)
        self.assertIs(is_table((2, (1,), ((0, (), 1),))), False)
        self.assertIs(is_table((10 ** 39, (0,) * 40, ((39, (), 10 ** 38),))), True)

    def test_program_and_context(self):
        for table in some_tables(30):
            things = list(any_values())
            for program in brute.some_programs(table, 6, 30):
                self.assertIs(is_program(table, program), True)
                self.assertIs(is_context(table, program), False)
                for context in brute.contexts_of(program):
                    self.check(is_context(table, context), True, context)
                    self.check(is_program(table, context), False, context)
                things.append(program)
            for thing in things:
                self.check(is_program(table, thing), slow_program(table, thing), thing)
                self.check(is_context(table, thing), slow_context(table, thing), thing)

    def test_program_and_context_exchanged(self):
        for table, program in ((LINE, (1, (1, (0,)))), (LEAVES, (1, (0,), (1, (0,), (0,)))), (MIXED, (2, (1, (0,)), (0,)))):
            for thing in [program, *brute.contexts_of(program)]:
                for other in exchanged(thing):
                    self.check(is_program(table, other), slow_program(table, other), other)
                    self.check(is_context(table, other), slow_context(table, other), other)

    def test_context_edges(self):
        self.assertIs(is_context(BARE, None), True)
        self.assertIs(is_program(BARE, None), False)
        self.assertIs(is_context(LEAVES, (1, None, None)), False)
        self.assertIs(is_context(LEAVES, (1, (1, None, (0,)), None)), False)
        self.assertIs(is_context(LEAVES, (1, (1, None, (0,)), (0,))), True)
        self.assertIs(is_program(LINE, (True, (0,))), False)

    def test_forty_nodes_and_more(self):
        for deep in (39, 2500):
            program = nest((0,), deep, lambda part: (1, part))
            self.assertIs(is_program(LINE, program), True)
            self.assertIs(is_context(LINE, nest(None, deep, lambda part: (1, part))), True)
            self.assertIs(is_program(LINE, nest((False,), deep, lambda part: (1, part))), False)
            self.assertIs(is_reading(LINE, program, (1,) * deep + (0,)), True)
            self.assertIs(is_reading(LINE, program, (1,) * (deep + 1)), False)
            self.assertIs(are_places(program, tuple(range(deep + 1))), True)
            self.assertIs(are_places(program, tuple(range(deep + 2))), False)

    def test_lot(self):
        for table in (LINE, MIXED, BARE):
            for thing in [*any_values(), *exchanged((0, 1))]:
                self.check(is_lot(table, thing), slow_lot(table, thing), thing)
        self.assertEqual([is_lot(MIXED, ()), is_lot(MIXED, (0, 2)), is_lot(MIXED, (0, 0)), is_lot(MIXED, (2, 0)),
                          is_lot(MIXED, (3,)), is_lot(MIXED, (False, 1)), is_lot(MIXED, [0])],
                         [True, True, False, False, False, False, False])

    def test_reading(self):
        for table in some_tables(25):
            programs = brute.some_programs(table, 4, 12)
            for program in programs:
                for thing in [program, *brute.contexts_of(program)]:
                    many = len(brute.nodes_of(thing))
                    for reading in itertools.product(range(table[0]), repeat=min(many, 4)):
                        self.check(is_reading(table, thing, reading), brute.is_reading(table, thing, reading), reading)

    def test_reading_of_any_value(self):
        for table, program, reading in ((LINE, (1, (1, (0,))), (1, 1, 0)), (LEAVES, (1, None, (0,)), (0, 1, 1)),
                                        (LINE, None, (1,)), (LEAVES, (1, (0,), (0,)), (0, 0, 1))):
            self.assertIs(is_reading(table, program, reading), True)
            for thing in [*any_values(), *exchanged(reading)]:
                self.check(is_reading(table, program, thing), brute.is_reading(table, program, thing), thing)

    def test_reading_of_contexts(self):
        self.assertEqual([is_reading(LINE, None, (kind,)) for kind in (0, 1, 2, True)], [True, True, False, False])
        self.assertIs(is_reading(LINE, None, ()), False)
        self.assertIs(is_reading(LINE, (1, None), (0, 1)), False)

    def test_places(self):
        for program in ((0,), (1, (0,)), (1, (1, (0,))), None, (1, None)):
            many = len(brute.nodes_of(program))
            for thing in [*any_values(), *exchanged((0, 1, 2))]:
                self.check(are_places(program, thing), slow_lot((many,), thing), thing)
        self.assertIs(are_places((0,), ()), True)

    def test_pins(self):
        table, program = MIXED, (1, (1, (0,)))
        for thing in [*any_values(), *exchanged({}), *exchanged({0: 1, 2: 0}), {2: 2, 0: 0}]:
            wanted = type(thing) is dict and all(kind_of(3, node) and kind_of(3, kind) for node, kind in thing.items())
            self.check(are_pins(table, program, thing), wanted, thing)
        self.assertEqual([are_pins(table, program, {}), are_pins(table, program, {2: 2, 0: 0}),
                          are_pins(table, program, {3: 0}), are_pins(table, program, {0: 3}),
                          are_pins(table, program, {True: 0}), are_pins(table, program, {0: False})],
                         [True, True, False, False, False, False])

    def test_state(self):
        for table in (BARE, LINE, MIXED):
            for thing in states_by_form(table):
                self.check(is_state(table, thing), slow_state(table, thing), thing)
            for thing in any_values():
                self.check(is_state(table, thing), slow_state(table, thing), thing)
        for state in ((0, ()), (0, ((1, 2),)), (2, ((0,), (0, 1)))):
            self.assertIs(is_state(MIXED, state), True)
            for thing in exchanged(state):
                self.check(is_state(MIXED, thing), slow_state(MIXED, thing), thing)

    def test_state_edges(self):
        self.assertIs(is_state(MIXED, (0, ((1,),))), False)
        self.assertIs(is_state(MIXED, (0, ((),))), False)
        self.assertIs(is_state(BARE, (0, ((0,),))), False)
        self.assertIs(is_state(MIXED, (0, ((0, 1, 2),))), False)
        self.assertIs(is_state(MIXED, (0, ((1, 2), (1,)))), False)
        self.assertIs(is_state(MIXED, (1, ((0, 1), (0, 2)))), False)
        self.assertIs(is_state((10 ** 39, (), ()), (0, ())), True)
        self.assertIs(is_state((10 ** 39, (), ()), (0, ((1,), (1, 2)))), False)

    def test_arguments_stay(self):
        pins = {2: 1, 0: 1}
        for _ in range(2):
            self.assertIs(are_pins(LINE, (1, (1, (0,))), pins), True)
            self.assertEqual(list(pins.items()), [(2, 1), (0, 1)])
        program = (1, (1, (0,)))
        for call in (is_integer, is_table, lambda thing: is_program(LINE, thing), lambda thing: is_context(LINE, thing),
                     lambda thing: is_lot(LINE, thing), lambda thing: is_reading(LINE, program, thing),
                     lambda thing: are_places(program, thing), lambda thing: are_pins(LINE, program, thing),
                     lambda thing: is_state(LINE, thing)):
            for thing, copied in (([(0, ()), [0]], [(0, ()), [0]]), ((1, [0], {0: []}), (1, [0], {0: []})), ({0: [1]}, {0: [1]})):
                self.assertEqual([call(thing), call(thing)], [False, False])
                self.assertEqual(thing, copied)


if __name__ == "__main__":
    unittest.main()
