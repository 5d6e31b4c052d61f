"""[33], with [10]: which programs get other readings if entries are put into a table."""

import itertools
import random
import unittest

from pinsenough.beside import harmed, harmless_lots, harmless_paper, is_harmless_paper, with_entries
from pinsenough.errors import TooMany
from pinsenough.forms import is_table
from pinsenough.programs import size_of
from pinsenough.readings import readings_many
import brute
from brute import BARE, LEAVES, LINE, MIXED, PAIRS, UNREAD, any_values, exchanged, layered_tables, lively_tables, some_tables, spoil
from test_growth import TWO
from test_needs import MANY

SMALL = (2, (0, 1), ((0, (), 0), (1, (0,), 1)))
FIRST, SECOND, THIRD = (0, (), 1), (1, (0,), 0), (1, (1,), 0)
# Just 300 DOUBLE ROWS come of the first two, 301 of the next two; of the last two 295, and the paper has them all.
JUST = (4, (0, 2), ((0, (), 1), (1, (1, 0), 1), (1, (1, 0), 3), (1, (1, 1), 0), (1, (1, 3), 0), (1, (1, 3), 2), (1, (2, 0), 2),
                    (1, (2, 1), 1), (1, (2, 2), 2), (1, (2, 3), 2), (1, (3, 1), 3), (1, (3, 2), 2)))
JUST_MORE = ((1, (0, 1), 0), (1, (0, 2), 3), (1, (0, 3), 1), (1, (0, 3), 3), (1, (1, 0), 2), (1, (2, 1), 3), (1, (2, 3), 1))
ABOVE = (4, (0, 0, 2), ((0, (), 3), (1, (), 2), (1, (), 3), (2, (0, 0), 3), (2, (0, 1), 1), (2, (0, 1), 2), (2, (0, 3), 0),
                        (2, (1, 0), 3), (2, (1, 2), 0), (2, (1, 3), 3), (2, (2, 0), 1), (2, (2, 0), 3), (2, (2, 1), 0),
                        (2, (2, 1), 2), (2, (2, 2), 0), (2, (2, 3), 0), (2, (2, 3), 2), (2, (3, 0), 3)))
ABOVE_MORE = ((2, (1, 3), 0), (2, (3, 1), 3))
LONG = (4, (0, 0, 2), ((0, (), 0), (0, (), 1), (0, (), 3), (1, (), 0), (1, (), 2), (1, (), 3), (2, (0, 2), 1), (2, (1, 0), 3),
                       (2, (1, 1), 2), (2, (1, 3), 0), (2, (2, 3), 0), (2, (3, 0), 2), (2, (3, 1), 3)))
LONG_MORE = ((0, (), 2), (2, (0, 1), 1))


def entries_of(table):
    return [(sign, parts, kind) for sign, many in enumerate(table[1])
            for parts in itertools.product(range(table[0]), repeat=many) for kind in range(table[0])]


def some_more(table, rng, most=4):
    pool = entries_of(table)
    return tuple(sorted(rng.sample(pool, min(len(pool), rng.randint(0, most)))))


def cases(count=80, start=0, most=4):
    rng = random.Random(33 + start)
    for table in [SMALL, LINE, LEAVES, MIXED, PAIRS, UNREAD, TWO, MANY, *some_tables(count), *lively_tables(count, start, 4),
                  *layered_tables(count // 3, start)]:
        more = some_more(table, rng, most)
        yield table, more
        if len(table[2]) > 3:
            # What is taken out is put in again: so the greater table is more often one of few readings.
            again = tuple(sorted(rng.sample(table[2], 2)))
            yield (table[0], table[1], tuple(entry for entry in table[2] if entry not in again)), again


def greater_of(table, more):
    return (table[0], table[1], tuple(sorted({*table[2], *more})))


def row_behind(table, greater, sign, below):
    """The row that comes of a sign and of a row for each of its parts, by the words of [33]."""
    sums = [[0, 0] for _ in range(table[0])]
    for place, entries in ((0, table[2]), (1, greater[2])):
        for other, parts, kind in entries:
            if other == sign:
                product = 1
                for part, numbers in zip(parts, below):
                    product *= numbers[part][place]
                sums[kind][place] += product
    return tuple((min(old, 2), min(new, 2)) for old, new in sums)


def all_rows(table, more, most=60):
    """All DOUBLE ROWS that come of programs, None if they are more than most."""
    greater = greater_of(table, more)
    found, waiting = set(), [()]
    while waiting:
        new = waiting.pop()
        beside = sorted(found)
        for sign, many in enumerate(table[1]):
            for below in {0: [()], 1: [(new,)], 2: [*((new, row) for row in beside), *((row, new) for row in beside)]}[many]:
                if (new == ()) == (many == 0):
                    row = row_behind(table, greater, sign, below)
                    if row not in found:
                        found.add(row)
                        waiting.append(row)
        if len(found) > most:
            return None
    return found


def is_bad(row):
    return sum(old for old, _ in row) == 1 < sum(new for _, new in row)


def slow_paper(table, more, thing):
    if type(thing) is not tuple:
        return False
    for row in thing:
        if type(row) is not tuple or len(row) != table[0]:
            return False
        for numbers in row:
            if type(numbers) is not tuple or len(numbers) != 2 or any(type(number) is not int or not 0 <= number <= 2 for number in numbers):
                return False
    if list(thing) != sorted(set(thing)) or any(is_bad(row) for row in thing):
        return False
    greater = greater_of(table, more)
    return all(row_behind(table, greater, sign, below) in thing for sign, many in enumerate(table[1])
               for below in itertools.product(thing, repeat=many))


def is_harmless(table, more):
    rows = all_rows(table, more, 10 ** 6)
    return not any(is_bad(row) for row in rows)


class BesideTest(unittest.TestCase):
    def test_with_entries(self):
        for table, more in cases(40):
            before = repr((table, more))
            told = with_entries(table, more)
            self.assertEqual([told, is_table(told)], [greater_of(table, more), True])
            self.assertEqual([with_entries(table, ()), with_entries(told, more), with_entries(table, table[2])], [table, told, table])
            self.assertEqual(repr((table, more)), before)

    def test_papers_and_harm(self):
        """[10]: harmless exactly if no row that comes about is harmed; and the paper is just all rows."""
        seen = {True: 0, False: 0}
        lengths = set()
        for table, more in cases(100):
            rows = all_rows(table, more)
            if rows is None:
                continue
            told, found = harmless_paper(table, more), harmed(table, more)
            if any(is_bad(row) for row in rows):
                self.assertIsNone(told)
                self.assertIsNotNone(found)
            else:
                self.assertEqual(told, tuple(sorted(rows)))
                self.assertTrue(slow_paper(table, more, told) and is_harmless_paper(table, more, told) is True)
                self.assertIsNone(found)
                lengths.add(len(told))
            seen[found is None] += 1
        self.assertGreater(min(seen.values()), 80)
        self.assertGreater(len(lengths), 10)

    def test_harmed(self):
        """Against all programs up to a size, the least first."""
        sizes = {}
        for table, more in cases(60, 500):
            if all_rows(table, more, 100) is None:
                continue
            found = harmed(table, more)
            greater = greater_of(table, more)
            first = None
            for program in brute.some_programs(table, 5, 200):
                if len(brute.readings_of(table, program)) == 1 < len(brute.readings_of(greater, program)):
                    first = program
                    break
            if found is None:
                self.assertIsNone(first)
                continue
            program, reading, other = found
            self.assertEqual(sum(readings_many(table, program, {})), 1)
            self.assertTrue(brute.is_reading(table, program, reading) and brute.is_reading(greater, program, other))
            self.assertNotEqual(reading, other)
            if first is not None:
                self.assertEqual(size_of(program), size_of(first))
            sizes[size_of(program)] = sizes.get(size_of(program), 0) + 1
        self.assertTrue({1, 2, 3} <= set(sizes), sizes)

    def test_lots(self):
        """Against all lots of more, each judged by its own rows."""
        seen = {}
        for table, more in itertools.chain(cases(50, 900, 3), cases(12, 950, 5)):
            if all_rows(table, more) is None:
                continue
            lots = [lot for many in range(len(more) + 1) for lot in itertools.combinations(more, many)]
            harmless = [lot for lot in lots if is_harmless(table, lot)]
            wanted = sorted(lot for lot in harmless if not any(set(lot) < set(other) for other in harmless))
            self.assertEqual(harmless_lots(table, more), wanted)
            for lot in lots:
                self.assertEqual(lot in harmless, any(set(lot) <= set(other) for other in wanted))
            if more:
                key = (len(wanted), wanted == [more], max(map(len, wanted)))
                seen[key] = seen.get(key, 0) + 1
        self.assertTrue({(1, True, 1), (1, True, 2), (1, False, 0), (1, False, 1), (2, False, 1)} <= set(seen), seen)

    def test_lots_by_two_entries_together(self):
        """Each of two is harmless, but not both: the one makes a part readable that the other leads on."""
        table = (3, (0, 1), ((0, (), 0), (1, (0,), 1)))
        one, other = (0, (), 2), (1, (2,), 1)
        self.assertEqual(harmless_lots(table, (other,)), [(other,)])
        table = (4, (0, 1, 1), ((0, (), 0), (1, (0,), 1), (2, (1,), 1), (1, (1,), 1)))
        one, other = (1, (0,), 3), (2, (3,), 2)
        self.assertEqual([harmless_lots(table, (one,)), harmless_lots(table, (other,))], [[()], [(other,)]])
        # The program that would get two readings of unlike kinds has two by the table, too, but for its part.
        hidden = (4, (0, 1, 1), ((0, (), 0), (1, (0,), 0), (1, (0,), 1), (2, (0,), 2)))
        one, other = (1, (0,), 3), (2, (3,), 1)
        self.assertEqual(harmless_lots(hidden, (one, other)), [(one,), (other,)])
        self.assertEqual([harmed(hidden, (one,)), harmed(hidden, (other,))], [None, None])
        self.assertEqual(harmed(hidden, (one, other)), ((2, (1, (0,))), (2, 0, 0), (1, 3, 0)))

    def test_examples(self):
        self.assertEqual([harmed(SMALL, (SECOND,)), harmless_paper(SMALL, (THIRD,))],
                         [((1, (0,)), (1, 0), (0, 0)), (((0, 0), (0, 1)), ((0, 0), (1, 1)), ((0, 1), (0, 0)), ((1, 1), (0, 0)))])
        self.assertEqual([harmless_lots(SMALL, (FIRST, SECOND, THIRD)), with_entries(SMALL, (THIRD,))[2][-1]],
                         [[((1, (1,), 0),)], (1, (1,), 0)])
        paper = harmless_paper(SMALL, (THIRD,))
        self.assertEqual([is_harmless_paper(SMALL, (THIRD,), paper[1:]), is_harmless_paper(SMALL, (THIRD,), paper)], [False, True])
        self.assertEqual([harmless_paper(BARE, ()), harmed(BARE, ()), harmless_lots(BARE, ()), is_harmless_paper(BARE, (), ())],
                         [(), None, [()], True])

    def test_more_that_is_nothing_new(self):
        for table in (SMALL, LINE, LEAVES, MANY, UNREAD):
            for more in ((), table[2][:3], table[2]):
                self.assertIsNone(harmed(table, more))
                rows = harmless_paper(table, more)
                self.assertTrue(all(old == new for row in rows for old, new in row))
            self.assertEqual(harmless_lots(table, table[2][:3]), [table[2][:3]])
        # What the table has stands in each greatest lot.
        self.assertEqual(harmless_lots(SMALL, (*SMALL[2], THIRD)), [(*SMALL[2], THIRD)])
        self.assertEqual(harmless_lots(SMALL, tuple(sorted((*SMALL[2], SECOND)))), [SMALL[2]])

    def test_rows_of_programs_without_a_reading(self):
        """They come of programs, too: so each paper has them."""
        self.assertEqual(harmless_paper(UNREAD, ()), (((0, 0), (0, 0)),))
        self.assertIs(is_harmless_paper(UNREAD, (), ()), False)
        self.assertEqual(harmless_paper((1, (0, 1), ((0, (), 0),)), ()), (((0, 0),), ((1, 1),)))
        self.assertEqual(harmless_paper((1, (1,), ((0, (0,), 0),)), ()), ())

    def test_eight_and_nine(self):
        table = (3, (0, 1), ((0, (), 0),))
        pool = [entry for entry in entries_of(table) if entry[0] == 1]
        lots = harmless_lots(table, tuple(pool[:8]))
        self.assertEqual(lots, [tuple(pool[:8])])
        table = (3, (0, 1), ((0, (), 0), (1, (0,), 0)))
        pool = [entry for entry in entries_of(table) if entry not in table[2]][:8]
        wanted = [lot for many in range(9) for lot in itertools.combinations(pool, many) if is_harmless(table, lot)]
        wanted = sorted(lot for lot in wanted if not any(set(lot) < set(other) for other in wanted))
        self.assertEqual(harmless_lots(table, tuple(pool)), wanted)
        for big in (table, JUST, ABOVE):
            with self.assertRaises(TooMany) as told:
                harmless_lots(big, tuple(entries_of(big)[:9]))
            self.assertEqual(told.exception.most, 8)

    def test_just_three_hundred_and_more(self):
        rows = all_rows(JUST, JUST_MORE, 400)
        self.assertEqual([len(rows), any(map(is_bad, rows)), harmless_paper(JUST, JUST_MORE)], [300, True, None])
        program, reading, other = harmed(JUST, JUST_MORE)
        self.assertEqual(sum(readings_many(JUST, program, {})), 1)
        self.assertTrue(brute.is_reading(JUST, program, reading) and brute.is_reading(with_entries(JUST, JUST_MORE), program, other))
        self.assertIsInstance(harmless_lots(JUST, JUST_MORE), list)
        self.assertEqual(len(all_rows(ABOVE, ABOVE_MORE, 400)), 301)
        for call in (harmed, harmless_paper, harmless_lots):
            for _ in range(2):
                with self.assertRaises(TooMany) as told:
                    call(ABOVE, ABOVE_MORE)
                self.assertEqual(told.exception.most, 300)
        self.assertIs(is_harmless_paper(ABOVE, ABOVE_MORE, ()), False)

    def test_a_long_paper(self):
        rows = all_rows(LONG, LONG_MORE, 400)
        paper = harmless_paper(LONG, LONG_MORE)
        self.assertEqual([len(paper), paper], [295, tuple(sorted(rows))])
        self.assertEqual([harmed(LONG, LONG_MORE), harmless_lots(LONG, LONG_MORE)], [None, [LONG_MORE]])
        self.assertIs(is_harmless_paper(LONG, LONG_MORE, paper), True)
        for at in (0, 100, 200, 294):
            self.assertIs(is_harmless_paper(LONG, LONG_MORE, paper[:at] + paper[at + 1:]), False)
        self.assertIs(is_harmless_paper(LONG, (), paper), False)

    def test_any_value(self):
        for table, more in ((SMALL, (THIRD,)), (SMALL, (SECOND,)), (BARE, ()), (UNREAD, ()), (LINE, ())):
            for value in any_values():
                self.assertIs(is_harmless_paper(table, more, value), slow_paper(table, more, value))

    def test_papers_with_more(self):
        """Rows may stand in a paper that no program has, also such of which the old number is the greater one."""
        table = (1, (0, 1), ((0, (), 0), (1, (0,), 0)))
        self.assertEqual(harmless_paper(table, ()), (((1, 1),),))
        for thing, wanted in (((((1, 1),), ((2, 2),)), True), ((((0, 0),), ((1, 1),)), True), ((((1, 1),), ((2, 0),)), True), ((((1, 1),), ((1, 2),)), False),
                              ((((0, 2),), ((1, 1),)), True), ((((2, 2),),), False), ((((1, 1),), ((1, 1),)), False), ((((2, 2),), ((1, 1),)), False),
                              ((((1, 1),), ((3, 3),)), False), ((((1, 1),), ((1, True),)), False), ([((1, 1),)], False), (([(1, 1)],), False),
                              (((([1, 1]),),), False), ((((1, 1), (1, 1)),), False), ((((1, 1, 1),),), False), (((1, 1),), False), ((), False)):
            self.assertEqual([is_harmless_paper(table, (), thing), slow_paper(table, (), thing)], [wanted, wanted])

    def test_exchanged(self):
        right = 0
        for table, more in ((SMALL, (THIRD,)), ((1, (0, 1), ((0, (), 0), (1, (0,), 0))), ()), (TWO, ()), (LEAVES, ())):
            for value in exchanged(harmless_paper(table, more)):
                told = is_harmless_paper(table, more, value)
                self.assertIs(told, slow_paper(table, more, value))
                right += told
        self.assertGreater(right, 8)

    def test_called_twice(self):
        more = (FIRST, SECOND, THIRD)
        before = repr((SMALL, more))
        for call in (lambda: with_entries(SMALL, more), lambda: harmed(SMALL, more), lambda: harmless_paper(SMALL, (THIRD,)),
                     lambda: harmless_lots(SMALL, more), lambda: is_harmless_paper(SMALL, (THIRD,), ())):
            first, again = call(), call()
            spoil(first)
            self.assertEqual([repr(call()), repr((SMALL, more))], [repr(again), before])


if __name__ == "__main__":
    unittest.main()
