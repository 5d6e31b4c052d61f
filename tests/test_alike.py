"""[34], with [10]: whether programs have as many readings by one table as by another."""

import itertools
import math
import random
import unittest
from fractions import Fraction

from pinsenough.alike import basis_of, is_basis, numbers_of, unlike_many
from pinsenough.beside import with_entries
from pinsenough.forms import is_program
from pinsenough.programs import renumbered
import brute
from brute import BARE, COUNTING, LEAVES, LINE, MIXED, PAIRS, UNREAD, any_values, euclid, exchanged, nest, some_tables, spoil
from test_growth import TWO
from test_needs import MANY, leafy

SMALL = (2, (0, 1), ((0, (), 0), (1, (0,), 1)))
MORE = (2, (0, 1), ((0, (), 0), (1, (0,), 0), (1, (0,), 1), (1, (1,), 0)))


def some_table(rng, signs, most_kinds=4):
    many = rng.randint(1, most_kinds)
    entries = set()
    for sign, parts in enumerate(signs):
        for _ in range(rng.randint(0, (3, 5, 8)[parts])):
            entries.add((sign, tuple(rng.randrange(many) for _ in range(parts)), rng.randrange(many)))
    return (many, signs, tuple(sorted(entries)))


def pairs(count, start=0):
    rng = random.Random(34 + start)
    yield from ((SMALL, MORE), (LINE, LINE), (LEAVES, LEAVES), (BARE, (3, (), ())), (UNREAD, UNREAD), (MANY, MANY), (PAIRS, PAIRS))
    for _ in range(count):
        signs = tuple(rng.choice((0, 0, 1, 1, 2)) for _ in range(rng.randint(0, 4)))
        one = some_table(rng, signs)
        yield one, some_table(rng, signs) if rng.random() < 0.7 else one
    for table in some_tables(count // 2):
        kinds = list(range(table[0]))
        rng.shuffle(kinds)
        yield table, renumbered(table, tuple(kinds), tuple(range(len(table[1]))))


def counted(table, program):
    """For each kind the number of readings, told by those of the parts."""
    below = [counted(table, part) for part in program[1:]]
    found = [0] * table[0]
    for sign, parts, kind in table[2]:
        if sign == program[0]:
            found[kind] += math.prod(row[part] for row, part in zip(below, parts))
    return found


def slow_numbers(one, other, program):
    found = []
    for table in (one, other):
        if brute.size_by_parts(program) < 8:
            readings = brute.readings_of(table, program)
            found.extend(sum(reading[0] == kind for reading in readings) for kind in range(table[0]))
        else:
            found.extend(counted(table, program))
    return tuple(found)


def rank(rows):
    """How many of the rows are independent, by fractions."""
    rows, many = [[Fraction(number) for number in row] for row in rows], 0
    for place in range(len(rows[0]) if rows else 0):
        fitting = [row for row in rows[many:] if row[place]]
        if fitting:
            pivot = fitting[0]
            rows.remove(pivot)
            rows.insert(many, pivot)
            for row in rows[many + 1:]:
                factor = row[place] / pivot[place]
                row[:] = [number - factor * less for number, less in zip(row, pivot)]
            many += 1
    return many


def is_program_by_words(table, thing):
    if type(thing) is not tuple or not thing or type(thing[0]) is not int or not 0 <= thing[0] < len(table[1]):
        return False
    return len(thing) == 1 + table[1][thing[0]] and all(is_program_by_words(table, part) for part in thing[1:])


def slow_basis(one, other, thing, programs):
    """By the words of [34], some programs standing for all."""
    if type(thing) is not tuple or not all(is_program_by_words(one, program) for program in thing):
        return False
    rows = [slow_numbers(one, other, program) for program in thing]
    if rank(rows) != len(rows):
        return False
    return rank(rows + [slow_numbers(one, other, program) for program in programs]) == len(rows)


class AlikeTest(unittest.TestCase):
    def test_numbers(self):
        for one, other in pairs(40):
            for program in brute.some_programs(one, 6, 25):
                self.assertEqual(numbers_of(one, other, program), slow_numbers(one, other, program))

    def test_basis(self):
        """[10]: at most as many as both have kinds together, and the numbers of all programs are sums of theirs."""
        seen = {}
        for one, other in pairs(150):
            basis = basis_of(one, other)
            self.assertTrue(all(is_program(one, program) for program in basis))
            self.assertLessEqual(len(basis), one[0] + other[0])
            self.assertEqual(basis == (), 0 not in one[1] or not (set(entry[0] for entry in (*one[2], *other[2]))
                                                                   & {sign for sign, many in enumerate(one[1]) if many == 0}))
            programs = brute.some_programs(one, 6, 60)
            self.assertTrue(slow_basis(one, other, basis, programs[:40]))
            self.assertIs(is_basis(one, other, basis), True)
            self.assertIs(is_basis(one, other, basis[::-1]), True)
            wanted = rank([slow_numbers(one, other, program) for program in programs])
            self.assertGreaterEqual(len(basis), wanted)
            seen[len(basis)] = seen.get(len(basis), 0) + 1
        self.assertTrue({0, 1, 2, 3, 4} <= set(seen), seen)

    def test_other_bases(self):
        """Any programs that are independent, and as many, are a BASIS."""
        rng = random.Random(340)
        right = wrong = 0
        for one, other in pairs(60, 7):
            basis, programs = basis_of(one, other), brute.some_programs(one, 6, 80)
            for _ in range(6 if len(programs) >= len(basis) else 0):
                chosen = tuple(rng.sample(programs, len(basis)))
                told = is_basis(one, other, chosen)
                self.assertIs(told, rank([slow_numbers(one, other, program) for program in chosen]) == len(chosen))
                right += told and len(chosen) > 1
                wrong += not told
        self.assertGreater(min(right, wrong), 40)

    def test_bases_that_are_none(self):
        basis = basis_of(SMALL, MORE)
        self.assertEqual(len(basis), 4)
        for at in range(4):
            rest = basis[:at] + basis[at + 1:]
            # One out, one twice, one that is a sum of others.
            self.assertIs(is_basis(SMALL, MORE, rest), False)
            self.assertIs(is_basis(SMALL, MORE, (*rest, rest[0])), False)
            self.assertIs(is_basis(SMALL, MORE, (*basis, basis[at])), False)
        deep = nest((0,), 9, lambda part: (1, part))
        self.assertIs(is_basis(SMALL, MORE, (*basis, deep)), False)
        self.assertIs(is_basis(SMALL, MORE, (*basis[:3], (1, deep))), rank([slow_numbers(SMALL, MORE, row) for row in (*basis[:3], (1, deep))]) == 4)
        unread = (1, (0, 1), ((0, (), 0),))
        self.assertEqual([basis_of(unread, unread), is_basis(unread, unread, ((0,),))], [((0,),), True])
        self.assertIs(is_basis(unread, unread, ((1, (0,)),)), False)
        for thing in (list(basis), (*basis[:3], list(basis[3])), (*basis[:3], None), (*basis[:3], (1, None)), basis[0], {}, (*basis[:3], (True, (0,)))):
            self.assertIs(is_basis(SMALL, MORE, thing), False)

    def test_unlike_many(self):
        """Against many programs: either all have as many, or the one that is told has not."""
        seen = {True: 0, False: 0}
        rng = random.Random(344)
        for one, other in pairs(120, 3):
            kinds, others = range(one[0]), range(other[0])
            for _ in range(4):
                some = tuple(sorted(rng.sample(kinds, rng.randint(0, len(kinds)))))
                beside = tuple(sorted(rng.sample(others, rng.randint(0, len(others)))))

                def told(program):
                    row = slow_numbers(one, other, program)
                    return sum(row[kind] for kind in some) == sum(row[one[0] + kind] for kind in beside)

                found = unlike_many(one, some, other, beside)
                if found is None:
                    self.assertTrue(all(told(program) for program in brute.some_programs(one, 6, 60)))
                else:
                    self.assertTrue(is_program(one, found))
                    self.assertFalse(told(found))
                seen[found is None] += 1
        self.assertGreater(min(seen.values()), 100)

    def test_alike_after_all(self):
        """Tables that read alike, but not by the same kinds or entries."""
        rng = random.Random(3)
        for table in some_tables(60):
            kinds = list(range(table[0]))
            rng.shuffle(kinds)
            other = renumbered(table, tuple(kinds), tuple(range(len(table[1]))))
            everything = tuple(range(table[0]))
            self.assertIsNone(unlike_many(table, everything, other, everything))
            for kind in everything:
                self.assertIsNone(unlike_many(table, (kind,), other, (kinds.index(kind),)))
        # Each kind is split in two that are read together.
        split = (2, (0, 1), ((0, (), 0), (1, (0,), 1), (1, (1,), 0)))
        self.assertIsNone(unlike_many(split, (0, 1), (1, (0, 1), ((0, (), 0), (1, (0,), 0))), (0,)))
        self.assertIsNotNone(unlike_many(split, (0,), (1, (0, 1), ((0, (), 0), (1, (0,), 0))), (0,)))

    def test_tables_with_unlike_numbers_of_kinds(self):
        one, three = (1, (0, 2), ((0, (), 0), (1, (0, 0), 0))), (3, (0, 2), ((0, (), 2), (1, (2, 2), 1), (1, (1, 2), 2)))
        self.assertEqual([numbers_of(one, three, (0,)), numbers_of(three, one, (1, (0,), (0,)))], [(1, 0, 0, 1), (0, 1, 0, 1)])
        self.assertEqual(unlike_many(one, (0,), three, (0, 1, 2)), (1, (0,), (1, (0,), (0,))))
        self.assertEqual([unlike_many(one, (), three, ()), unlike_many(one, (), three, (0,)), unlike_many(one, (0,), three, ())],
                         [None, None, (0,)])

    def test_examples(self):
        more = with_entries(SMALL, ((1, (0,), 0), (1, (1,), 0)))
        self.assertEqual(more, MORE)
        self.assertEqual([numbers_of(SMALL, more, (1, (0,))), numbers_of(SMALL, more, (1, (1, (0,))))], [(0, 1, 1, 1), (0, 0, 2, 1)])
        self.assertEqual([len(basis_of(SMALL, more)), is_basis(SMALL, more, ((0,), (0,))), unlike_many(SMALL, (0,), SMALL, (0,))],
                         [4, False, None])
        self.assertFalse(unlike_many(SMALL, (0, 1), more, (0, 1)) is None)
        self.assertEqual([basis_of(BARE, BARE), is_basis(BARE, BARE, ()), unlike_many(BARE, (0,), BARE, ())], [(), True, None])
        no_leaf = (2, (1, 2), ((0, (0,), 1), (1, (0, 1), 1)))
        self.assertEqual([basis_of(no_leaf, no_leaf), is_basis(no_leaf, no_leaf, ()), unlike_many(no_leaf, (0,), no_leaf, (1,))], [(), True, None])

    def test_exact_numbers(self):
        program = leafy(20)
        self.assertEqual(numbers_of(LEAVES, LEAVES, program), (2 ** 20, 0) * 2)
        self.assertEqual(numbers_of(COUNTING, COUNTING, euclid(123456, 98765)), (123456, 98765) * 2)
        self.assertIs(is_basis(COUNTING, COUNTING, (euclid(123456, 98765), euclid(98765, 123456))), True)
        self.assertIs(is_basis(COUNTING, COUNTING, (euclid(123456, 98765), euclid(123456, 98765))), False)
        wide = (1, (0, 2), tuple(sorted([(0, (), 0), (1, (0, 0), 0)])))
        tree = (0,)
        for _ in range(5):
            tree = (1, tree, tree)
        self.assertEqual(numbers_of(wide, wide, tree), (1, 1))

    def test_any_value(self):
        for one, other in ((SMALL, MORE), (BARE, BARE), (LINE, LINE), (TWO, TWO), (MIXED, MIXED)):
            programs = brute.some_programs(one, 5, 30)
            for value in any_values():
                self.assertIs(is_basis(one, other, value), slow_basis(one, other, value, programs))
                self.assertIs(is_basis(one, other, (value,)), slow_basis(one, other, (value,), programs))

    def test_exchanged(self):
        right = 0
        for one, other in ((SMALL, MORE), (LINE, LINE), (TWO, TWO), (MIXED, MIXED)):
            programs = brute.some_programs(one, 6, 40)
            for value in exchanged(basis_of(one, other)):
                told = is_basis(one, other, value)
                self.assertIs(told, slow_basis(one, other, value, programs))
                right += told
        self.assertGreater(right, 3)

    def test_called_twice(self):
        basis = basis_of(SMALL, MORE)
        before = repr((SMALL, MORE, basis))
        for call in (lambda: basis_of(SMALL, MORE), lambda: numbers_of(SMALL, MORE, (1, (0,))), lambda: unlike_many(SMALL, (0,), MORE, (0,)),
                     lambda: is_basis(SMALL, MORE, basis)):
            first, again = call(), call()
            spoil(first)
            self.assertEqual([repr(call()), repr((SMALL, MORE, basis))], [repr(again), before])
        self.assertTrue(all(size < 200 for size in map(brute.size_by_parts, itertools.chain(basis, basis_of(MANY, MANY)))))


if __name__ == "__main__":
    unittest.main()
