"""Whether programs have as many readings by one table as by another, told by a few of them."""

from heapq import heappop, heappush
from math import gcd

from pinsenough.forms import is_program
from pinsenough.manyreads import Sums
from pinsenough.readings import readings_many


def numbers_of(one, other, program):
    return (*readings_many(one, program, {}), *readings_many(other, program, {}))


class Span:
    """Rows of integers, and all rows that are sums of them with fractions as factors."""

    def __init__(self):
        # Each row with the place of its first number that is not 0; all rows behind it have a 0 there.
        self.rows = []

    def takes(self, row):
        """Takes a row if it is no such sum, and tells whether it did."""
        rest = list(row)
        for place, taken in self.rows:
            factor, less = taken[place], rest[place]
            rest = [factor * number - less * number_taken for number, number_taken in zip(rest, taken)]
        if not any(rest):
            return False
        common = 0
        for number in rest:
            common = gcd(common, number)
        place = [number != 0 for number in rest].index(True)
        self.rows.append((place, [number // common for number in rest]))
        return True


class Basis:
    """A BASIS of two tables: programs are tried by size, those whose parts are all of the basis."""

    def __init__(self, one, other):
        self.signs = one[1]
        self.sums = (Sums(one), Sums(other))
        # The programs, each with its size and its numbers by both tables.
        self.taken = []
        self.queue = []
        span = Span()
        for sign, parts in enumerate(self.signs):
            if parts == 0:
                self.offer(sign, ())
        while self.queue:
            size, program, numbers = heappop(self.queue)
            if span.takes([number for row in numbers for number in row]):
                self.taken.append((size, program, numbers))
                self.offer_wholes(self.taken[-1])

    def offer(self, sign, below):
        """Lets a program wait that has the parts of below, such as those in taken."""
        size = 1 + sum([part[0] for part in below])
        program = (sign, *[part[1] for part in below])
        numbers = []
        for place, sums in enumerate(self.sums):
            numbers.append(tuple(sums.numbers_of(sign, [part[2][place] for part in below])))
        heappush(self.queue, (size, program, tuple(numbers)))

    def offer_wholes(self, new):
        """Offers all programs that have what was taken as parts, the last one of it among them."""
        for sign, parts in enumerate(self.signs):
            if parts == 1:
                self.offer(sign, (new,))
            if parts == 2:
                self.offer(sign, (new, new))
                for part in self.taken[:-1]:
                    self.offer(sign, (new, part))
                    self.offer(sign, (part, new))


def basis_of(one, other):
    return tuple([program for _, program, _ in Basis(one, other).taken])


def is_basis(one, other, thing):
    if not isinstance(thing, tuple) or not all([is_program(one, program) for program in thing]):
        return False
    # All numbers lie among the sums of any basis: so as many independent ones make one, too.
    if len(thing) != len(basis_of(one, other)):
        return False
    span = Span()
    return all([span.takes(numbers_of(one, other, program)) for program in thing])


def unlike_many(one, some, other, others):
    for _, program, (by_one, by_other) in Basis(one, other).taken:
        if sum([by_one[kind] for kind in some]) != sum([by_other[kind] for kind in others]):
            return program
    return None
