"""[19], with [2], [3], [4] and the words ahead of [18]: rounds, and what shows that there are none."""

import itertools
import unittest

from pinsenough.programs import hole_of, size_of
from pinsenough.rounds import (is_ranks, is_shifting, is_stays, is_twofold, ranks_of, shifting_round, stays_of,
                               twofold_round)
import brute
from brute import (BARE, LEAVES, LINE, MIXED, PAIRS, UNREAD, any_values, exchanged, lively_tables, nest, some_tables, spoil)
from test_forms import slow_context

# A twofold round that goes through a part: only its reading, not the kinds on the way, is unlike.
SIDE = (3, (0, 1, 2), ((0, (), 0), (0, (), 1), (1, (0,), 2), (1, (1,), 2), (2, (0, 2), 0)))
# A shifting round whose other part must be had by three readings of just these kinds.
SIDE_SHIFT = (4, (0, 0, 2), ((0, (), 0), (0, (), 1), (1, (), 2), (1, (), 3), (2, (0, 2), 0), (2, (1, 2), 1), (2, (1, 3), 0)))
# The kinds 0 and 1 are both made, but by no one program: a shifting round all the same.
APART_ENDS = (2, (0, 0, 1), ((0, (), 0), (1, (), 1), (2, (0,), 0), (2, (1,), 0), (2, (1,), 1)))
# A round of a kind that is not made.
UNMADE = (2, (0, 1, 1), ((0, (), 0), (1, (1,), 1), (2, (1,), 1), (2, (1,), 0)))
LOOSE = (2, (1,), ((0, (0,), 0), (0, (0,), 1), (0, (1,), 0), (0, (1,), 1)))
# Both sorts of rounds.
BOTH = (2, (0, 1), ((0, (), 0), (1, (0,), 0), (1, (0,), 1), (1, (1,), 0), (1, (1,), 1)))
NAMED = (LINE, LEAVES, MIXED, PAIRS, BARE, UNREAD, SIDE, SIDE_SHIFT, APART_ENDS, UNMADE, LOOSE, BOTH)


def made(table):
    return {row[0] for row in brute.rows_had(table, 1)}


def are_rows(table, context, thing, many):
    if not slow_context(table, context) or context is None or len(thing) != many:
        return False
    return all(brute.is_reading(table, context, reading) for reading in thing)


def slow_twofold(table, thing):
    if type(thing) is not tuple or not thing or not are_rows(table, thing[0], thing[1:], 2):
        return False
    hole = hole_of(thing[0])
    kinds = {kind for reading in thing[1:] for kind in (reading[0], reading[hole])}
    return len(kinds) == 1 and kinds <= made(table) and thing[1] != thing[2]


def slow_shifting(table, thing):
    if type(thing) is not tuple or not thing or not are_rows(table, thing[0], thing[1:], 3):
        return False
    hole = hole_of(thing[0])
    (low, under), (high, over), between = [(reading[hole], reading[0]) for reading in thing[1:]]
    return low == under and high == over and between == (high, low) and low != high and {low, high} <= made(table)


def slow_ranks(table, thing):
    if type(thing) is not dict or any(type(key) is not tuple or any(type(kind) is not int for kind in key) for key in thing):
        return False
    if set(thing) != brute.rows_had(table, 2) or any(type(rank) is not int for rank in thing.values()):
        return False
    apart = brute.couples_apart(table)
    for couple, other, rest in brute.leads(table, 2):
        if couple in thing:
            if thing[other] < thing[couple]:
                return False
            forks = couple[0] == couple[1] and (other[0] != other[1] or any(row in apart for row in rest))
            if forks and thing[other] == thing[couple]:
                return False
    return True


def unlike_made(table):
    return sorted((one, other) for one in made(table) for other in made(table) if one != other)


def slow_stays(table, thing):
    if type(thing) is not dict or any(type(key) is not tuple or any(type(kind) is not int for kind in key) for key in thing):
        return False
    if sorted(thing) != unlike_made(table) or any(type(rows) is not list for rows in thing.values()):
        return False
    triples = set(itertools.product(range(table[0]), repeat=3))
    leads = brute.leads(table, 3)
    for (low, high), rows in thing.items():
        if any(type(row) is not tuple or any(type(kind) is not int for kind in row) or row not in triples for row in rows):
            return False
        if rows != sorted(set(rows)) or (low, high, high) not in rows or (low, high, low) in rows:
            return False
        if any(row in rows and other not in rows for row, other, _ in leads):
            return False
    return True


def closure(table, start):
    found = {start}
    leads = brute.leads(table, 3)
    before = None
    while before != len(found):
        before = len(found)
        found |= {other for row, other, _ in leads if row in found}
    return sorted(found)


def small_rounds(table, most_size):
    """Whether there is a twofold, a shifting round of a small size, all readings of contexts gone through."""
    twofold = shifting = False
    for program in brute.some_programs(table, most_size + 1, 150):
        for context in brute.contexts_of(program):
            if context is not None and size_of(context) <= most_size:
                readings = brute.readings_of(table, context)[:40]
                twofold = twofold or any(slow_twofold(table, (context, *two)) for two in itertools.combinations(readings, 2))
                if not shifting and len(readings) <= 12:
                    shifting = any(slow_shifting(table, (context, *three)) for three in itertools.permutations(readings, 3))
    return twofold, shifting


class RoundsTest(unittest.TestCase):
    def test_each_round_is_one(self):
        seen = {}
        for table in [*NAMED, *some_tables(150), *lively_tables(400)]:
            twofold, shifting, ranks, stays = twofold_round(table), shifting_round(table), ranks_of(table), stays_of(table)
            self.assertNotEqual(twofold is None, ranks is None)
            self.assertNotEqual(shifting is None, stays is None)
            for told, judge, slow in ((twofold, is_twofold, slow_twofold), (shifting, is_shifting, slow_shifting),
                                      (ranks, is_ranks, slow_ranks), (stays, is_stays, slow_stays)):
                self.assertIs(judge(table, told), told is not None)
                self.assertIs(slow(table, told), told is not None)
            key = (twofold is None, shifting is None)
            seen[key] = seen.get(key, 0) + 1
        self.assertEqual(len(seen), 4)
        self.assertGreater(min(seen.values()), 5)

    def test_small_rounds_are_not_missed(self):
        seen = [0, 0]
        for table in [*NAMED, *lively_tables(60, 1000)]:
            twofold, shifting = small_rounds(table, 3)
            seen[0] += twofold
            seen[1] += shifting
            if twofold:
                self.assertIsNotNone(twofold_round(table))
            if shifting:
                self.assertIsNotNone(shifting_round(table))
        self.assertGreater(min(seen), 5)

    def test_examples(self):
        self.assertEqual([twofold_round(table) is None for table in NAMED],
                         [True, False, True, False, True, True, False, True, True, True, True, False])
        self.assertEqual([shifting_round(table) is None for table in NAMED],
                         [False, True, False, True, True, True, True, False, False, True, True, False])
        self.assertEqual([ranks_of(BARE), stays_of(BARE), ranks_of(UNREAD), stays_of(UNREAD)], [{}, {}, {}, {}])
        self.assertEqual(stays_of(LEAVES), {(0, 1): [(0, 0, 0), (0, 1, 1)], (1, 0): [(0, 0, 0), (1, 0, 0)]})
        self.assertEqual([is_ranks(BARE, {}), is_stays(BARE, {}), is_ranks(LEAVES, {}), is_stays(LEAVES, {})],
                         [True, True, False, False])
        self.assertEqual([is_twofold(LEAVES, (None, (0,), (0,))), is_twofold(LEAVES, (None, (0,), (1,)))], [False, False])

    def test_rounds_through_a_side_program(self):
        context, one, other = twofold_round(SIDE)
        self.assertEqual((context[0], len(context)), (2, 3))
        self.assertTrue(is_twofold(SIDE, ((2, None, (1, (0,))), (0, 0, 2, 0), (0, 0, 2, 1))))
        self.assertEqual(one[:2], other[:2])
        told = ((2, None, (1,)), (0, 0, 2), (1, 1, 2), (0, 1, 3))
        self.assertEqual([is_shifting(SIDE_SHIFT, told), shifting_round(SIDE_SHIFT)], [True, told])
        self.assertFalse(is_shifting(SIDE_SHIFT, (told[0], (0, 0, 2), (1, 1, 2), (0, 1, 2))))
        apart = (4, (0, 0, 2, 0), (*SIDE_SHIFT[2][:3], *SIDE_SHIFT[2][4:], (3, (), 3)))
        self.assertEqual([shifting_round(apart), list(stays_of(apart))[0]], [None, (0, 1)])
        self.assertEqual(shifting_round(APART_ENDS)[0], (2, None))
        self.assertTrue(is_shifting(APART_ENDS, ((2, None), (0, 0), (1, 1), (0, 1))))

    def test_kinds_that_nothing_makes(self):
        self.assertTrue(slow_context(UNMADE, (2, None)) and brute.is_reading(UNMADE, (2, None), (1, 1)))
        self.assertFalse(is_twofold(LOOSE, ((0, (0, None)), (0, 0, 0), (0, 1, 0))))
        self.assertFalse(is_shifting(UNMADE, ((2, None), (0, 1), (1, 1), (0, 1))))
        self.assertFalse(is_shifting(LOOSE, ((0, None), (0, 0), (1, 1), (0, 1))))
        made_one = (2, (1, 0), (*LOOSE[2], (1, (), 0)))
        self.assertTrue(is_twofold(made_one, ((0, (0, None)), (0, 0, 0), (0, 1, 0))))
        self.assertTrue(is_shifting(made_one, ((0, None), (0, 0), (1, 1), (0, 1))))

    def test_ranks_that_are_none(self):
        self.assertTrue(is_ranks(LINE, {(1, 1): 7, (0, 0): -3, (1, 0): -2, (0, 1): 0}))
        self.assertFalse(is_ranks(LINE, {(0, 0): 0, (0, 1): 0, (1, 0): 1, (1, 1): 1}))
        self.assertFalse(is_ranks(LINE, {(0, 0): 0, (0, 1): 2, (1, 0): 1, (1, 1): 1}))
        self.assertTrue(is_ranks(LINE, {(0, 0): -10 ** 39, (0, 1): 1, (1, 0): 1, (1, 1): 10 ** 39}))
        apart = (3, (0, 0, 2), ((0, (), 1), (0, (), 2), (1, (), 0), (2, (0, 1), 0), (2, (0, 2), 2)))
        self.assertEqual(is_ranks(apart, ranks_of(apart)), slow_ranks(apart, ranks_of(apart)))
        side = (4, (0, 1, 2, 0), ((0, (), 0), (0, (), 1), (1, (0,), 2), (1, (1,), 2), (2, (0, 2), 3), (3, (), 0)))
        told = {couple: 0 for couple in sorted(brute.rows_had(side, 2))}
        told[(3, 3)] = 1
        self.assertFalse(is_ranks(side, {**told, (3, 3): 0}))
        self.assertEqual(is_ranks(side, told), slow_ranks(side, told))

    def test_least_stays(self):
        seen = 0
        for table in [*NAMED, *lively_tables(250)]:
            told = stays_of(table)
            if told is not None:
                self.assertEqual(list(told), unlike_made(table))
                for (low, high), rows in told.items():
                    self.assertEqual(rows, closure(table, (low, high, high)))
                    seen += len(rows) > 2
        self.assertGreater(seen, 20)

    def test_greater_stays(self):
        seen = 0
        for table in [*NAMED, *lively_tables(20)]:
            told = stays_of(table)
            if told:
                triples = list(itertools.product(range(table[0]), repeat=3))
                for key in told:
                    for start in triples:
                        more = {**told, key: sorted({*told[key], *closure(table, start)})}
                        self.assertEqual(is_stays(table, more), slow_stays(table, more))
                        seen += is_stays(table, more)
        self.assertGreater(seen, 100)

    def test_any_value(self):
        for table in NAMED:
            for judge, slow in ((is_twofold, slow_twofold), (is_shifting, slow_shifting)):
                for value in any_values():
                    self.assertIs(judge(table, value), False)
            for judge, slow in ((is_ranks, slow_ranks), (is_stays, slow_stays)):
                for value in any_values():
                    self.assertIs(judge(table, value), slow(table, value))

    def test_exchanged_rounds(self):
        right = 0
        for table in [*NAMED, *lively_tables(25)]:
            for found, judge, slow in ((twofold_round(table), is_twofold, slow_twofold),
                                       (shifting_round(table), is_shifting, slow_shifting)):
                if found is not None and size_of(found[0]) < 8:
                    for value in exchanged(found):
                        self.assertIs(judge(table, value), slow(table, value), (table, value))
                        right += judge(table, value)
        self.assertGreater(right, 20)

    def test_exchanged_papers(self):
        right = 0
        for table in [LINE, LEAVES, MIXED, SIDE, APART_ENDS, *lively_tables(6)]:
            for found, judge, slow in ((ranks_of(table), is_ranks, slow_ranks), (stays_of(table), is_stays, slow_stays)):
                if found is not None:
                    for value in exchanged(found):
                        self.assertIs(judge(table, value), slow(table, value), (table, value))
                        right += judge(table, value)
        self.assertGreater(right, 20)

    def test_truths_at_any_depth(self):
        self.assertFalse(is_ranks(LINE, {(0, 0): False, (0, 1): 1, (1, 0): 1, (1, 1): 1}))
        self.assertFalse(is_ranks(LINE, {(0, False): 0, (0, 1): 1, (1, 0): 1, (1, 1): 1}))
        self.assertFalse(is_stays(LEAVES, {(0, 1): [(0, 0, 0), (0, 1, True)], (1, 0): [(0, 0, 0), (1, 0, 0)]}))
        self.assertFalse(is_stays(LEAVES, {(0, True): [(0, 0, 0), (0, 1, 1)], (1, 0): [(0, 0, 0), (1, 0, 0)]}))
        self.assertFalse(is_stays(LEAVES, {(0, 1): ((0, 0, 0), (0, 1, 1)), (1, 0): [(0, 0, 0), (1, 0, 0)]}))
        self.assertFalse(is_shifting(LINE, ((1, None), (1, 1), (0, 0), (1, False))))
        self.assertFalse(is_shifting(LINE, ((True, None), (1, 1), (0, 0), (1, 0))))
        self.assertFalse(is_shifting(LINE, [(1, None), (1, 1), (0, 0), (1, 0)]))
        self.assertFalse(is_twofold(BOTH, ((1, (1, None)), [0, 0, 0], (0, 1, 0))))
        self.assertFalse(is_twofold(LEAVES, ((1, None, None), (0, 0, 0), (0, 1, 0))))

    def test_ends_and_widths(self):
        self.assertTrue(is_twofold(LEAVES, ((1, None, (0,)), (0, 0, 0), (0, 0, 1))))
        self.assertFalse(is_twofold(LEAVES, ((1, None, (0,)), (0, 1, 0), (0, 1, 1))))
        told = {(0, 1): [(0, 0, 0), (0, 1, 1)], (1, 0): [(0, 0, 0), (1, 0, 0)]}
        for row in ((), (0,), (1, 1), (0, 0, 0, 0), (1, 1, 1, 1)):
            self.assertFalse(is_stays(LEAVES, {**told, (0, 1): sorted([*told[(0, 1)], row])}))

    def test_deep_values(self):
        deep = nest(None, 3000, lambda part: (1, part))
        self.assertTrue(is_shifting(LINE, (deep, (1,) * 3001, (0,) * 3001, (1,) * 100 + (0,) * 2901)))
        self.assertFalse(is_shifting(LINE, (deep, (1,) * 3001, (0,) * 3001, (1,) * 3001)))
        self.assertTrue(is_twofold(BOTH, (deep, (0,) * 3001, (0,) * 100 + (1,) + (0,) * 2900)))

    def test_greatest_tables(self):
        entries = tuple(sorted((1, (one, other), (one * other + one + 2) // 2 if one * other < 7 else other)
                               for one in range(4) for other in range(4)))
        full = (4, (0, 2), ((0, (), 0), (0, (), 1), (0, (), 2), (0, (), 3), *[entry for entry in entries if entry[2] < 4]))
        twofold, shifting = twofold_round(full), shifting_round(full)
        self.assertTrue(slow_twofold(full, twofold) if twofold else slow_ranks(full, ranks_of(full)))
        self.assertTrue(slow_shifting(full, shifting) if shifting else slow_stays(full, stays_of(full)))

    def test_called_twice(self):
        for table in (LINE, LEAVES, PAIRS, SIDE):
            for call in (twofold_round, shifting_round, ranks_of, stays_of):
                first, again = call(table), call(table)
                spoil(first)
                self.assertEqual(call(table), again)
                self.assertEqual(repr(call(table)), repr(again))
        told = {(0, 1): [(0, 0, 0), (0, 1, 1)], (1, 0): [(0, 0, 0), (1, 0, 0)]}
        before = repr(told)
        self.assertEqual([is_stays(LEAVES, told), is_stays(LEAVES, told), repr(told)], [True, True, before])

    def test_keys_ascend(self):
        for table in [*NAMED, *lively_tables(60)]:
            for told in (ranks_of(table), stays_of(table)):
                if told is not None:
                    self.assertEqual(list(told), sorted(told))


if __name__ == "__main__":
    unittest.main()
