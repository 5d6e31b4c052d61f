"""[13], with [2] and [3]: nodes, putting, filling, other numbers."""

import itertools
import random
import unittest

from pinsenough.forms import is_context, is_program, is_reading, is_table
from pinsenough.programs import (context_of, filled, hole_of, parts_at, program_at, put_at, reading_at, renumbered,
                                 renumbered_program, renumbered_reading, size_of)
import brute
from brute import BARE, LEAVES, LINE, MIXED, PAIRS, nest, nodes_of, some_tables


def things_of(table, size=5, most=25):
    """Programs of a table, and contexts."""
    programs = brute.some_programs(table, size, most)
    return programs + [context for program in programs for context in brute.contexts_of(program)] + [None]


def slow_put(program, node, other):
    if node == 0:
        return other
    at = 1
    parts = []
    for part in program[1:]:
        width = len(nodes_of(part))
        parts.append(slow_put(part, node - at, other) if at <= node < at + width else part)
        at += width
    return (program[0], *parts)


def flat(program):
    """A program that may be nested very deep, as a row of signs."""
    row = []
    waiting = [program]
    while waiting:
        top = waiting.pop()
        row.append(None if top is None else top[0])
        waiting.extend(() if top is None else reversed(top[1:]))
    return row


class NodesTest(unittest.TestCase):
    def test_size_and_program_at(self):
        for table in some_tables(25):
            for thing in things_of(table):
                tops = nodes_of(thing)
                self.assertEqual(size_of(thing), len([top for top in tops if top is not None]))
                for node, top in enumerate(tops):
                    self.assertEqual(program_at(thing, node), top)

    def test_parts_at(self):
        for table in some_tables(25):
            for thing in things_of(table):
                tops = nodes_of(thing)
                for node, top in enumerate(tops):
                    parts = parts_at(thing, node)
                    self.assertIs(type(parts), tuple)
                    self.assertEqual(tuple(tops[part] for part in parts), () if top is None else top[1:])
                    if parts:
                        self.assertEqual(parts[0], node + 1)
                    if len(parts) == 2:
                        self.assertEqual(parts[1], node + 1 + len(nodes_of(tops[parts[0]])))

    def test_edges(self):
        self.assertEqual([size_of(None), size_of((0,)), size_of((1, None)), hole_of(None), hole_of((1, None))], [0, 1, 1, 0, 1])
        self.assertEqual([parts_at(None, 0), parts_at((0,), 0), parts_at((1, None), 1)], [(), (), ()])
        self.assertEqual([program_at(None, 0), program_at((1, None), 1), program_at((0,), 0)], [None, None, (0,)])
        self.assertEqual([reading_at(None, (1,), 0), reading_at((1, None), (0, 1), 1)], [(1,), (1,)])

    def test_reading_at(self):
        for table in some_tables(25):
            for program in brute.some_programs(table, 5, 20):
                for reading in brute.readings_of(table, program)[:5]:
                    for node, top in enumerate(nodes_of(program)):
                        told = reading_at(program, reading, node)
                        self.assertTrue(brute.is_reading(table, top, told))
                        self.assertEqual(told, reading[node:node + len(told)])
        context = (1, (1, (0,), (0,)), None)
        self.assertEqual([reading_at(context, (1, 0, 1, 0, 1), 1), reading_at(context, (1, 0, 1, 0, 1), 4)], [(0, 1, 0), (1,)])

    def test_put_at(self):
        for table in some_tables(20):
            programs = brute.some_programs(table, 4, 12)
            for program, other in itertools.product(programs, things_of(table, 3, 4)):
                for node in range(size_of(program)):
                    put = put_at(program, node, other)
                    self.assertEqual(put, slow_put(program, node, other))
                    self.assertEqual(program_at(put, node), other)
                    self.assertTrue(is_context(table, put) if None in nodes_of(other) else is_program(table, put))

    def test_put_in_contexts(self):
        context = (1, (1, (0,), None), (0,))
        self.assertEqual(put_at(context, 3, (0,)), (1, (1, (0,), (0,)), (0,)))
        self.assertEqual(put_at(context, 4, (1, (0,), (0,))), (1, (1, (0,), None), (1, (0,), (0,))))
        self.assertEqual(put_at(context, 1, None), (1, None, (0,)))
        self.assertEqual([put_at(None, 0, (0,)), put_at((0,), 0, None), put_at(None, 0, None)], [(0,), None, None])

    def test_contexts(self):
        for table in some_tables(25):
            others = things_of(table, 3, 6)
            for program in brute.some_programs(table, 5, 15):
                for node, top in enumerate(nodes_of(program)):
                    context = context_of(program, node)
                    self.assertTrue(is_context(table, context))
                    self.assertEqual(hole_of(context), node)
                    self.assertEqual(filled(context, top), program)
                    self.assertEqual(size_of(context), size_of(program) - size_of(top))
                    for other in others:
                        self.assertEqual(filled(context, other), slow_put(program, node, other))

    def test_forty_nodes_and_more(self):
        for deep in (39, 2500):
            program = nest((0,), deep, lambda part: (1, part))
            context = context_of(program, deep)
            self.assertEqual([size_of(program), size_of(context), hole_of(context)], [deep + 1, deep, deep])
            self.assertEqual(flat(filled(context, (0,))), flat(program))
            self.assertEqual(flat(filled(context, context)), [1] * (2 * deep) + [None])
            self.assertEqual(size_of(program_at(program, deep - 3)), 4)
            self.assertEqual([parts_at(program, deep - 1), parts_at(program, deep)], [(deep,), ()])
            self.assertEqual(reading_at(program, tuple(range(deep + 1)), deep - 1), (deep - 1, deep))
            self.assertEqual(flat(renumbered_program(context, (1, 0))), [0] * deep + [None])
            self.assertEqual(flat(put_at(program, 1, (0,))), [1, 0])

    def test_called_twice(self):
        program = (1, (0,), (1, (0,), (0,)))
        calls = [lambda: size_of(program), lambda: program_at(program, 2), lambda: parts_at(program, 2),
                 lambda: reading_at(program, (1, 0, 1, 0, 1), 2), lambda: put_at(program, 2, (0,)),
                 lambda: context_of(program, 2), lambda: filled((1, None, (0,)), program),
                 lambda: renumbered(LEAVES, (1, 0), (1, 0)), lambda: renumbered_program(program, (1, 0)),
                 lambda: renumbered_reading((1, 0, 1), (1, 0))]
        for call in calls:
            self.assertEqual(call(), call())
        self.assertEqual(program, (1, (0,), (1, (0,), (0,))))


class RenumberedTest(unittest.TestCase):
    def test_an_example(self):
        table = (3, (0, 1), ((0, (), 0), (1, (0,), 1), (1, (1,), 2)))
        told = renumbered(table, (2, 0, 1), (1, 0))
        self.assertEqual(told, (3, (1, 0), ((0, (1,), 2), (0, (2,), 0), (1, (), 1))))
        self.assertEqual(renumbered_program((1, (1, (0,))), (1, 0)), (0, (0, (1,))))
        self.assertEqual(renumbered_reading((2, 1, 0), (2, 0, 1)), (0, 2, 1))

    def test_tables(self):
        rng = random.Random(5)
        for table in some_tables(60):
            many, signs, entries = table
            kinds = tuple(rng.sample(range(many), many))
            order = tuple(rng.sample(range(len(signs)), len(signs)))
            told = renumbered(table, kinds, order)
            self.assertTrue(is_table(told))
            self.assertEqual(told[0], many)
            for sign, was in enumerate(order):
                self.assertEqual(told[1][sign], signs[was])
            back = {(order[sign], tuple(kinds[part] for part in parts), kinds[kind]) for sign, parts, kind in told[2]}
            self.assertEqual(back, set(entries))
            self.assertEqual(len(told[2]), len(entries))
            for thing in things_of(table, 4, 8):
                same = renumbered_program(thing, order)
                self.assertEqual([None if top is None else order[top[0]] for top in nodes_of(same)],
                                 [None if top is None else top[0] for top in nodes_of(thing)])
                if None not in nodes_of(thing):
                    readings = [renumbered_reading(reading, kinds) for reading in brute.readings_of(table, thing)]
                    self.assertEqual(sorted(readings), brute.readings_of(told, same))
                    for reading in readings:
                        self.assertTrue(is_reading(told, same, reading))

    def test_edges(self):
        self.assertEqual(renumbered(BARE, (0,), ()), BARE)
        self.assertEqual([renumbered_program(None, (0,)), renumbered_program((1, None, (0,)), (1, 0)), renumbered_reading((), (0,))],
                         [None, (0, None, (1,)), ()])
        for table in (LINE, MIXED, PAIRS):
            self.assertEqual(renumbered(table, tuple(range(table[0])), tuple(range(len(table[1])))), table)


if __name__ == "__main__":
    unittest.main()
