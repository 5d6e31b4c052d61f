"""[30], with TREE OF ASKS, HEIGHT, FOUND and ALL of [2], and the words ahead of [29]."""

import functools
import random
import unittest

from pinsenough.asks import best_tree, fewest_asks, finds_all, found_by, height_of
from pinsenough.errors import NoReading, TooMany
from pinsenough.places import least_places
from pinsenough.readings import readings_many, readings_of
import brute
from brute import (COUNTING, LEAVES, LINE, MIXED, PAIRS, UNREAD, any_values, euclid, exchanged, layered_tables, lively_tables, nest,
                   some_tables, spoil)
from test_growth import TWO
from test_needs import MANY, leafy
from test_rounds import BOTH

TABLES = [LINE, LEAVES, MIXED, PAIRS, TWO, BOTH, MANY, COUNTING, *some_tables(30), *lively_tables(60, 0, 4), *layered_tables(30)]
FOUR = (1, (1, (1, (0,))))
TREE = ("ask", 1, {0: ("ask", 0, {0: ("end", (0, 0, 0, 0)), 1: ("end", (1, 0, 0, 0))}),
                   1: ("ask", 2, {0: ("end", (1, 1, 0, 0)), 1: ("end", (1, 1, 1, 0))})})


def slow_height(tree):
    return 0 if tree[0] == "end" else 1 + max(slow_height(part) for part in tree[2].values())


def slow_fewest(readings):
    """All trees gone through, each lot of readings once."""
    @functools.lru_cache(None)
    def fewest(lot):
        if len(lot) == 1:
            return 0
        found = []
        for node in range(len(lot[0])):
            parts = [tuple(row for row in lot if row[node] == kind) for kind in sorted({row[node] for row in lot})]
            if len(parts) > 1:
                found.append(1 + max(fewest(part) for part in parts))
        return min(found)
    return fewest(tuple(readings))


def is_tree(table, program, thing):
    """By the words of [2] and [30]."""
    if type(thing) is tuple and len(thing) == 2 and type(thing[0]) is str and thing[0] == "end":
        return brute.is_reading(table, program, thing[1])
    if type(thing) is not tuple or len(thing) != 3 or type(thing[0]) is not str or thing[0] != "ask":
        return False
    if type(thing[1]) is not int or not 0 <= thing[1] < len(brute.nodes_of(program)) or type(thing[2]) is not dict or not thing[2]:
        return False
    return all(type(key) is int and 0 <= key < table[0] and is_tree(table, program, part) for key, part in thing[2].items())


def is_found(tree, reading):
    while tree[0] == "ask":
        if reading[tree[1]] not in tree[2]:
            return False
        tree = tree[2][reading[tree[1]]]
    return tree[1] == reading


def slow_finds(table, program, thing):
    return is_tree(table, program, thing) and all(is_found(thing, reading) for reading in brute.readings_of(table, program))


def has_just_what_comes(tree, readings):
    """Whether all kinds that readings have that come there are keys, and no other ones."""
    if tree[0] == "end":
        return [tree[1]] == readings
    return list(tree[2]) == sorted({row[tree[1]] for row in readings}) and all(
        has_just_what_comes(part, [row for row in readings if row[tree[1]] == kind]) for kind, part in tree[2].items())


def dicts_in(tree):
    return [] if tree[0] == "end" else [tree[2]] + [row for part in tree[2].values() for row in dicts_in(part)]


class AsksTest(unittest.TestCase):
    def test_fewest_and_best(self):
        seen = {}
        for table in TABLES:
            for program in brute.some_programs(table, 6, 25):
                readings = brute.readings_of(table, program)
                if not 1 <= len(readings) <= 12:
                    continue
                told, tree = fewest_asks(table, program), best_tree(table, program)
                self.assertEqual([told, slow_height(tree), height_of(tree)], [slow_fewest(readings)] * 3)
                self.assertTrue(slow_finds(table, program, tree) and finds_all(table, program, tree) is True)
                self.assertTrue(has_just_what_comes(tree, readings))
                for reading in readings:
                    nodes = found_by(tree, reading)
                    self.assertLessEqual(len(nodes), told)
                self.assertLessEqual(told, len(least_places(table, program)))
                self.assertEqual(told == 0, len(readings) == 1)
                seen[told] = seen.get(told, 0) + 1
        self.assertTrue({0, 1, 2, 3} <= set(seen), seen)

    def test_greater_programs(self):
        rng = random.Random(30)
        seen = {}
        for table in [BOTH, COUNTING, *lively_tables(400, 900, 4), *layered_tables(100, 900)]:
            for size in (8, 11, 14, 25, 40):
                program = brute.some_program(table, size, rng)
                if program and 5 < sum(readings_many(table, program, {})) <= 12:
                    readings = readings_of(table, program, {})
                    told = slow_fewest(readings)
                    self.assertEqual([fewest_asks(table, program), height_of(best_tree(table, program))], [told, told])
                    self.assertTrue(has_just_what_comes(best_tree(table, program), readings))
                    fewer = told < len(least_places(table, program))
                    seen[told, fewer] = seen.get((told, fewer), 0) + 1
        self.assertTrue({(2, False), (3, False), (3, True), (4, True)} <= set(seen), seen)

    def test_places_make_a_tree(self):
        """Places that are for all, asked one behind the other, find all; ends may be there at which nothing comes."""
        for table, program in ((LINE, FOUR), (LEAVES, leafy(3)), (BOTH, (1, (1, (0,)))), (MANY, (2, (1,)))):
            readings = readings_of(table, program, {})
            places = least_places(table, program)

            def asked(left, row):
                if not left:
                    fitting = [reading for reading in readings if all(reading[node] == kind for node, kind in row)]
                    return ("end", (fitting or readings)[0])
                return ("ask", left[0], {kind: asked(left[1:], [*row, (left[0], kind)]) for kind in range(table[0])})

            tree = asked(places, [])
            self.assertIs(finds_all(table, program, tree), True)
            self.assertEqual(height_of(tree), len(places))
            self.assertTrue(all(found_by(tree, reading) == places for reading in readings))

    def test_examples(self):
        self.assertEqual([finds_all(LINE, FOUR, TREE), height_of(TREE), found_by(TREE, (1, 1, 0, 0)), finds_all(LINE, FOUR, TREE[2][0])],
                         [True, 2, (1, 2), False])
        self.assertEqual([fewest_asks(LINE, FOUR), height_of(best_tree(LINE, FOUR)), fewest_asks(LINE, (0,)), best_tree(LINE, (0,))],
                         [2, 2, 0, ("end", (0,))])
        self.assertEqual([height_of(("end", (0,))), found_by(("end", (0,)), (0,)), finds_all(LINE, (0,), ("end", (0,)))], [0, (), True])
        self.assertEqual(height_of(("ask", 0, {0: ("end", (0,)), 1: ("ask", 0, {1: ("end", (0,))})})), 2)

    def test_a_node_asked_twice(self):
        tree = ("ask", 1, {0: TREE, 1: ("ask", 1, {1: ("ask", 2, {0: ("end", (1, 1, 0, 0)), 1: ("end", (1, 1, 1, 0))})})})
        self.assertEqual([finds_all(LINE, FOUR, tree), height_of(tree)], [True, 3])
        self.assertEqual([found_by(tree, (1, 0, 0, 0)), found_by(tree, (1, 1, 1, 0))], [(1, 1, 0), (1, 1, 2)])
        deep = nest(TREE, 58, lambda part: ("ask", 3, {0: part}))
        self.assertEqual([finds_all(LINE, FOUR, deep), height_of(deep), found_by(deep, (0,) * 4)], [True, 60, (3,) * 58 + (1, 0)])
        self.assertEqual(height_of(nest(TREE, 3000, lambda part: ("ask", 3, {0: part}))), 3002)

    def test_ends_at_which_no_reading_comes(self):
        spare = {0: TREE, 1: ("end", (0, 0, 0, 0))}
        self.assertIs(finds_all(LINE, FOUR, ("ask", 3, spare)), True)
        for end in ((0, 0, 0, 1), (0, 1, 0, 0), (0, 0, 0), [0, 0, 0, 0], (False, 0, 0, 0), None, (2, 0, 0, 0)):
            self.assertIs(finds_all(LINE, FOUR, ("ask", 3, {0: TREE, 1: ("end", end)})), False)
        for below in (("ask", 4, {0: TREE}), ("ask", 0, {}), ("ask", -1, {0: TREE}), ("ask", True, {0: TREE}), ("ask", 0, {2: TREE}),
                      ("ask", 0, {True: TREE}), ("ask", 0, {"a": TREE}), ("ask", 0, [TREE]), ("ask", 0), ("ends", (0, 0, 0, 0)), ["end", (0, 0, 0, 0)],
                      ("end", (0, 0, 0, 0), ()), ("end",), (), None, "end", ("ask", 0, {0: TREE}, 0), ("ask", 0, {0: TREE, 1: None})):
            self.assertIs(finds_all(LINE, FOUR, ("ask", 3, {0: TREE, 1: below})), False)
            self.assertIs(slow_finds(LINE, FOUR, ("ask", 3, {0: TREE, 1: below})), False)

    def test_trees_that_miss(self):
        end = {row: ("end", row) for row in readings_of(LINE, FOUR, {})}
        swapped = ("ask", 1, {0: TREE[2][1], 1: TREE[2][0]})
        short = ("ask", 1, {0: TREE[2][0], 1: end[(1, 1, 0, 0)]})
        for tree in (swapped, short, ("ask", 1, {0: TREE[2][0]}), ("ask", 1, {1: TREE[2][1]}), *end.values()):
            self.assertIs(finds_all(LINE, FOUR, tree), False)

    def test_any_value(self):
        for table, program in ((LINE, FOUR), (LINE, (0,)), (LEAVES, (0,)), (LEAVES, (1, (0,), (0,)))):
            for value in any_values():
                for thing in (value, ("end", value), ("ask", value, {0: ("end", (0,))}), ("ask", 0, value), (value, (0,)), ("ask", 0, {0: value, 1: value})):
                    self.assertIs(finds_all(table, program, thing), slow_finds(table, program, thing))

    def test_exchanged(self):
        right = 0
        for table, program in ((LINE, (1, (1, (0,)))), (LINE, FOUR), (LEAVES, (1, (0,), (0,))), (BOTH, (1, (0,)))):
            for value in exchanged(best_tree(table, program)):
                told = finds_all(table, program, value)
                self.assertIs(told, slow_finds(table, program, value))
                right += told
        self.assertGreater(right, 3)

    def test_no_reading(self):
        for table, program, node in ((MIXED, (2, (0,), (0,)), 0), (MIXED, (1, (2, (0,), (0,))), 1), (UNREAD, (1, (0,), (0,)), 1)):
            for call in (lambda: finds_all(table, program, None), lambda: finds_all(table, program, ("end", (0,))),
                         lambda: fewest_asks(table, program), lambda: best_tree(table, program)):
                with self.assertRaises(NoReading) as told:
                    call()
                self.assertEqual(told.exception.node, node)

    def test_just_so_many_and_more(self):
        program = euclid(5, 7)
        self.assertTrue(finds_all(COUNTING, program, best_tree(COUNTING, program)))
        self.assertEqual(fewest_asks(COUNTING, program), 4)
        for call in (fewest_asks, best_tree):
            for row in (euclid(6, 7), euclid(3091, 1910)):
                with self.assertRaises(TooMany) as told:
                    call(COUNTING, row)
                self.assertEqual(told.exception.most, 12)
        most = euclid(3091, 1909)
        nodes = range(len(brute.nodes_of(most)))
        readings = readings_of(COUNTING, most, {})

        def sorted_out(rows, left):
            if len(rows) == 1:
                return ("end", rows[0])
            kinds = sorted({row[left[0]] for row in rows})
            return ("ask", left[0], {kind: sorted_out([row for row in rows if row[left[0]] == kind], left[1:]) for kind in kinds})

        tree = sorted_out(readings, tuple(nodes))
        self.assertIs(finds_all(COUNTING, most, tree), True)
        self.assertIs(finds_all(COUNTING, most, tree[2][0]), False)
        with self.assertRaises(TooMany) as told:
            finds_all(COUNTING, euclid(3091, 1910), tree)
        self.assertEqual(told.exception.most, 5000)

    def test_new_each_time(self):
        first = best_tree(LINE, FOUR)
        again = best_tree(LINE, FOUR)
        before = repr(again)
        rows = dicts_in(first) + dicts_in(again)
        self.assertEqual(len({id(row) for row in rows}), len(rows))
        spoil(first)
        self.assertEqual([repr(again), repr(best_tree(LINE, FOUR))], [before, before])
        for table in (BOTH, COUNTING, *lively_tables(20, 50, 4)):
            for program in brute.some_programs(table, 6, 8):
                if 1 <= sum(readings_many(table, program, {})) <= 12:
                    rows = dicts_in(best_tree(table, program))
                    self.assertEqual(len({id(row) for row in rows}), len(rows))

    def test_called_twice(self):
        before = repr(TREE)
        for call in (lambda: finds_all(LINE, FOUR, TREE), lambda: height_of(TREE), lambda: found_by(TREE, (1, 1, 0, 0)), lambda: fewest_asks(LINE, FOUR)):
            self.assertEqual([call(), repr(TREE)], [call(), before])


if __name__ == "__main__":
    unittest.main()
