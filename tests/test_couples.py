"""[18], with the words ahead of it: rows that programs have, and where they lead."""

import itertools
import unittest

from pinsenough.couples import apart_couples, apart_shown, couple_shown, had_couples, had_triples, leads_of
from pinsenough.programs import size_of
import brute
from brute import BARE, LEAVES, LINE, MIXED, PAIRS, UNREAD, some_tables, spoil

MOST_SIZE = 7


def couples(table):
    return list(itertools.product(range(table[0]), repeat=2))


def kind_sets(table):
    """The sets of kinds that programs have, each of just one program."""
    found = set()
    before = None
    while before != len(found):
        before = len(found)
        for sign, many in enumerate(table[1]):
            for parts in itertools.product(list(found), repeat=many):
                kinds = frozenset(kind for other, row, kind in table[2]
                                  if other == sign and all(part in part_kinds for part, part_kinds in zip(row, parts)))
                found.add(kinds)
    return found


def slow_rows(table, width):
    return sorted({row for kinds in kind_sets(table) for row in itertools.product(kinds, repeat=width)})


def seen_couples(table):
    """The least sizes of small programs by which couples are had, and had apart."""
    had, apart = {}, {}
    for program in brute.some_programs(table, MOST_SIZE, 500):
        readings = brute.readings_of(table, program)[:60]
        for one, other in itertools.product(readings, repeat=2):
            had.setdefault((one[0], other[0]), size_of(program))
            if one != other:
                apart.setdefault((one[0], other[0]), size_of(program))
    return had, apart


def slow_leads(table):
    had = slow_rows(table, 2)
    apart = apart_couples(table)
    found = {}
    for one, other in itertools.product(table[2], repeat=2):
        if one[0] == other[0]:
            rows = list(zip(one[1], other[1]))
            for place, row in enumerate(rows):
                rest = rows[:place] + rows[place + 1:]
                if row in had and all(part in had for part in rest):
                    found.setdefault((row, (one[2], other[2])), []).append(any(part in apart for part in rest))
    return [(*key, any(found[key])) for key in sorted(found)]


class CouplesTest(unittest.TestCase):
    def test_examples(self):
        self.assertEqual(had_couples(MIXED), [(0, 0), (0, 1), (1, 0), (1, 1)])
        self.assertEqual([had_couples(BARE), had_triples(BARE), apart_couples(BARE), leads_of(BARE)], [[]] * 4)
        self.assertEqual([had_couples(UNREAD), had_triples(UNREAD), apart_couples(UNREAD), leads_of(UNREAD)], [[]] * 4)
        self.assertEqual([couple_shown(UNREAD, (0, 1)), apart_shown(UNREAD, (1, 1)), couple_shown(MIXED, (2, 2))], [None] * 3)
        table = (3, (0, 0, 0), ((0, (), 0), (0, (), 1), (1, (), 1), (1, (), 2), (2, (), 2)))
        self.assertEqual(had_couples(table), [(0, 0), (0, 1), (1, 0), (1, 1), (1, 2), (2, 1), (2, 2)])
        self.assertEqual(apart_couples(table), [(0, 1), (1, 0), (1, 2), (2, 1)])
        self.assertNotIn((0, 1, 2), had_triples(table))
        self.assertIn((0, 1, 0), had_triples(table))
        self.assertEqual([couple_shown(table, (0, 2)), apart_shown(table, (0, 2)), apart_shown(table, (1, 1))], [None] * 3)

    def test_shown_examples(self):
        self.assertEqual(couple_shown(LINE, (1, 0)), ((1, (0,)), (1, 0), (0, 0)))
        self.assertEqual(apart_shown(LINE, (1, 0)), ((1, (0,)), (1, 0), (0, 0)))
        self.assertEqual(couple_shown(LINE, (0, 0)), ((0,), (0,), (0,)))
        program, one, other = apart_shown(LEAVES, (0, 0))
        self.assertEqual(program, (1, (0,), (0,)))
        self.assertNotEqual(one, other)

    def test_apart_in_a_part_only(self):
        table = (2, (0, 2, 1), ((0, (), 0), (0, (), 1), (1, (0, 1), 0), (2, (0,), 0), (2, (1,), 0)))
        self.assertEqual([apart_couples(table), size_of(apart_shown(table, (0, 0))[0])], [[(0, 0), (0, 1), (1, 0)], 2])
        table = (3, (0, 1, 2), ((0, (), 0), (0, (), 1), (1, (0,), 2), (1, (1,), 2), (2, (0, 2), 0), (2, (2, 1), 1)))
        self.assertEqual([apart_couples(table)[-1], size_of(apart_shown(table, (0, 0))[0])], [(2, 2), 4])
        self.assertIn(((0, 0), (0, 0), True), leads_of(table))
        self.assertIn(((2, 2), (0, 0), True), leads_of(table))
        self.assertIn(((0, 0), (2, 2), False), leads_of(table))

    def test_rows(self):
        for table in some_tables(120):
            self.assertEqual(had_couples(table), slow_rows(table, 2))
            self.assertEqual(had_triples(table), slow_rows(table, 3))

    def test_shown_against_all_small_programs(self):
        for table in some_tables(70):
            had, apart = seen_couples(table)
            for couple in couples(table):
                self.check_shown(table, couple, couple_shown(table, couple), had, had_couples(table), False)
                self.check_shown(table, couple, apart_shown(table, couple), apart, apart_couples(table), True)

    def check_shown(self, table, couple, told, seen, listed, apart):
        self.assertEqual(told is not None, couple in listed)
        if told is None:
            self.assertNotIn(couple, seen)
            return
        program, one, other = told
        self.assertTrue(brute.is_reading(table, program, one) and brute.is_reading(table, program, other))
        self.assertEqual((one[0], other[0]), couple)
        if apart:
            self.assertNotEqual(one, other)
        if couple in seen:
            self.assertEqual(size_of(program), seen[couple])
        else:
            self.assertGreater(size_of(program), min(MOST_SIZE, full_size(table)))

    def test_lists_ascend(self):
        for table in some_tables(40):
            for told in (had_couples(table), had_triples(table), apart_couples(table), leads_of(table)):
                self.assertIs(type(told), list)
                self.assertEqual(told, sorted(set(told)))

    def test_unlike_kinds_are_had_apart_if_they_are_had(self):
        for table in some_tables(60):
            self.assertEqual([couple for couple in apart_couples(table) if couple[0] != couple[1]],
                             [couple for couple in had_couples(table) if couple[0] != couple[1]])

    def test_leads(self):
        apart = 0
        for table in some_tables(150):
            told = leads_of(table)
            self.assertEqual(told, slow_leads(table))
            for lead in told:
                self.assertIs(type(lead[2]), bool)
                apart += lead[2]
        self.assertGreater(apart, 20)
        self.assertIn(((0, 0), (0, 0), True), leads_of(LEAVES))

    def test_leads_only_where_the_other_part_is_had(self):
        table = (3, (0, 2), ((0, (), 0), (1, (0, 1), 2), (1, (0, 0), 1)))
        self.assertEqual(leads_of((3, (0, 2), tuple(sorted(table[2])))),
                         [((0, 0), (1, 1), False), ((0, 0), (2, 2), False), ((1, 1), (2, 2), False)])
        table = (3, (0, 2), ((0, (), 0), (1, (0, 1), 2)))
        self.assertEqual(leads_of(table), [])

    def test_the_most_entries(self):
        entries = sorted({(1, (at % 4, at // 4 % 4), (at * at + at // 7) % 4) for at in range(20)})
        table = (4, (0, 2), ((0, (), 0), (0, (), 1), (0, (), 2), (0, (), 3), *entries))
        self.assertEqual([len(had_couples(table)), len(had_triples(table))], [16, 64])
        self.assertEqual(leads_of(table), slow_leads(table))
        chain = (4, (0, 2), ((0, (), 0), (0, (), 1), *sorted({(1, (0, 0), 1), (1, (1, 1), 2), (1, (2, 2), 3), (1, (3, 3), 0)})))
        for couple in had_couples(chain):
            program, one, other = couple_shown(chain, couple)
            self.assertTrue(brute.is_reading(chain, program, one) and brute.is_reading(chain, program, other))

    def test_called_twice(self):
        for call in (lambda: had_couples(PAIRS), lambda: had_triples(PAIRS), lambda: apart_couples(PAIRS), lambda: leads_of(PAIRS),
                     lambda: couple_shown(PAIRS, (0, 1)), lambda: apart_shown(PAIRS, (2, 2))):
            first = call()
            again = call()
            spoil(first)
            self.assertEqual(call(), again)


def full_size(table):
    """The greatest size up to which all programs were looked at."""
    many = 0
    memo = {}
    for size in range(1, MOST_SIZE + 1):
        rows = brute.programs_of_size(table, size, memo)
        many += len(rows)
        if len(rows) > 500 or many > 500:
            return size if len(rows) <= 500 else size - 1
    return MOST_SIZE


if __name__ == "__main__":
    unittest.main()
