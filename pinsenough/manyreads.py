"""The numbers of readings that programs have: cut, greatest, and by the size of the program."""

from heapq import heappop, heappush

from pinsenough.errors import TooMany, Unbounded
from pinsenough.growth import growth_paper
from pinsenough.readings import ways

MOST_TALLIES = 600


class Sums:
    """The numbers of readings of a program of each kind, told by those of its parts, for one table."""

    def __init__(self, table):
        self.many = table[0]
        self.entries = [[entry[1:] for entry in table[2] if entry[0] == sign] for sign in range(len(table[1]))]
        # For each sign and place, the kinds that entries ask of a part there.
        self.asked = [self.asked_by(sign, parts) for sign, parts in enumerate(table[1])]

    def asked_by(self, sign, parts):
        return [sorted({row[place] for row, _ in self.entries[sign]}) for place in range(parts)]

    def seen_as(self, sign, place, tally):
        """What of a tally the sign tells apart at a place."""
        return tuple([tally[kind] for kind in self.asked[sign][place]])

    def numbers_of(self, sign, below):
        numbers = [0] * self.many
        for parts, kind in self.entries[sign]:
            numbers[kind] += ways(below, parts)
        return numbers

    def given_by(self, sign, place, tally):
        """What a tally at a place of a sign of two parts gives, summed up: (kind at the other place, kind, factor)."""
        factors = {}
        for parts, kind in self.entries[sign]:
            key = (parts[1 - place], kind)
            factors[key] = factors.get(key, 0) + tally[parts[place]]
        return [(part, kind, factor) for (part, kind), factor in factors.items() if factor]

    def numbers_beside(self, given, other):
        numbers = [0] * self.many
        for part, kind, factor in given:
            numbers[kind] += factor * other[part]
        return numbers


class Tallies:
    """The tallies that programs have, cut at most if that is not None, with programs of the least size.

    Tallies that are all 0 are there only if with_zeros is true; TooMany is raised if there are more than limit.
    """

    def __init__(self, table, most, limit, with_zeros):
        self.most = most
        self.limit = limit
        self.with_zeros = with_zeros
        self.sums = Sums(table)
        # For each sign and place, from what it tells apart there to the first tally that is seen so.
        self.seen = [[{} for _ in range(parts)] for parts in table[1]]
        # From each tally to (size, sign, tallies of the parts) of the least program that is known.
        self.known = {}
        self.queue = []
        for sign, parts in enumerate(table[1]):
            if parts == 0:
                self.come_about(sign, (), self.sums.numbers_of(sign, ()))
        self.settle_all()

    def come_about(self, sign, below, numbers):
        """Takes in a program of a sign that has these numbers, its parts having the tallies of below."""
        tally = tuple(numbers)
        if self.most is not None:
            tally = tuple([min(number, self.most) for number in numbers])
        if not self.with_zeros and not any(tally):
            return
        size = 1 + sum([self.known[part][0] for part in below])
        if tally not in self.known or size < self.known[tally][0]:
            self.known[tally] = (size, sign, below)
            heappush(self.queue, (size, tally))
        if len(self.known) > self.limit:
            raise TooMany(self.limit)

    def settle_all(self):
        """Lets all tallies stand as parts, those of the least sizes first."""
        while self.queue:
            size, tally = heappop(self.queue)
            # A tally waits once for each size that was the least one so far.
            if size == self.known[tally][0]:
                self.settle(tally)

    def settle(self, tally):
        for sign, places in enumerate(self.sums.asked):
            for place in range(len(places)):
                told = self.sums.seen_as(sign, place, tally)
                # Of tallies that the sign does not tell apart there, the first has the least program.
                if told not in self.seen[sign][place]:
                    self.seen[sign][place][told] = tally
                    if len(places) == 1:
                        self.come_about(sign, (tally,), self.sums.numbers_of(sign, (tally,)))
                    else:
                        self.stand_beside(sign, place, tally)

    def stand_beside(self, sign, place, tally):
        """Lets a tally stand at a place of a sign of two parts, beside all that stand at the other place."""
        # There may be very many couples of tallies: so what the one gives is summed up ahead.
        given = self.sums.given_by(sign, place, tally)
        for other in list(self.seen[sign][1 - place].values()):
            below = (tally, other) if place == 0 else (other, tally)
            self.come_about(sign, below, self.sums.numbers_beside(given, other))

    def programs(self):
        """The dict from all tallies, ascending, to programs of the least size."""
        built = {}
        for _, tally in sorted([(self.known[tally][0], tally) for tally in self.known]):
            _, sign, below = self.known[tally]
            built[tally] = (sign, *[built[part] for part in below])
        return {tally: built[tally] for tally in sorted(built)}

    def least_program(self, tallies):
        """A program of the least size that has one of these tallies, None if there are none."""
        if not tallies:
            return None
        return self.programs()[min([(self.known[tally][0], tally) for tally in tallies])[1]]

    def least_with(self, many):
        """A program of the least size with at least so many readings, as told, None if there is none."""
        return self.least_program([tally for tally in self.known if sum(tally) >= many])


def cut_tallies(table, most):
    return Tallies(table, most, MOST_TALLIES, False).programs()


def least_with(table, many):
    return Tallies(table, many, MOST_TALLIES, False).least_with(many)


def greatest_readings(table):
    paper = growth_paper(table)
    if paper[0] != "bounded":
        raise Unbounded(paper[1])
    tallies = Tallies(table, None, MOST_TALLIES, False)
    greatest = max([sum(tally) for tally in tallies.known], default=0)
    return (greatest, tallies.least_with(greatest))


def rows_of(counts, size, parts):
    """From each row of keys, one for each part, to the number of choices for the parts, of this size together.

    counts has, for each size from 0 on, a dict from keys to the numbers of what has this size.
    """
    if parts == 0:
        return {(): int(size == 0)}
    if parts == 1:
        return {(key,): many for key, many in counts[size].items()}
    rows = {}
    for first in range(size + 1):
        for one, many in counts[first].items():
            for other, more in counts[size - first].items():
                rows[(one, other)] = rows.get((one, other), 0) + many * more
    return rows


def kinds_had(table, sign, below):
    """The ascending tuple of the kinds that a program of a sign has, its parts having those of below."""
    had = {}
    for other, parts, kind in table[2]:
        if other == sign and all([part in kinds for part, kinds in zip(parts, below)]):
            had[kind] = True
    return tuple(sorted(had))


def programs_of_size(table, programs, size):
    """From the kinds that a program has to the number of programs of this size; programs tells it of lesser ones."""
    found = {}
    for sign, parts in enumerate(table[1]):
        for below, many in rows_of(programs, size - 1, parts).items():
            had = kinds_had(table, sign, below)
            if had:
                found[had] = found.get(had, 0) + many
    return found


def readings_of_size(table, readings, size):
    """From each kind to the number of readings of programs of this size; readings tells it of lesser ones."""
    found = {}
    rows = [rows_of(readings, size - 1, parts) for parts in range(3)]
    for sign, below, kind in table[2]:
        found[kind] = found.get(kind, 0) + rows[table[1][sign]].get(below, 0)
    return found


def by_sizes(table, size):
    programs = [{}]
    readings = [{}]
    told = []
    for number in range(1, size + 1):
        programs.append(programs_of_size(table, programs, number))
        readings.append(readings_of_size(table, readings, number))
        told.append((number, sum(list(programs[number].values())), sum(list(readings[number].values()))))
    return told
