"""Which programs get other readings if entries are put into a table."""

from pinsenough.enough import other_reading
from pinsenough.errors import TooMany
from pinsenough.forms import are_below, is_ascending
from pinsenough.manyreads import Sums, Tallies
from pinsenough.needs import lots_of, rows_over
from pinsenough.readings import reading_by

MOST_ROWS = 300
MOST_MORE = 8
# Two or more readings are not told apart.
CUT = 2


def with_entries(table, more):
    return (table[0], table[1], tuple(sorted(set([*table[2], *more]))))


def doubled(table, more):
    """The table whose programs have the readings by the table, and those by the greater one by kinds behind them."""
    many = table[0]
    greater = with_entries(table, more)
    behind = [(sign, tuple([many + part for part in parts]), many + kind) for sign, parts, kind in greater[2]]
    return (2 * many, table[1], tuple(sorted([*table[2], *behind])))


def row_of(tally):
    """The DOUBLE ROW of a tally by the doubled table."""
    many = len(tally) // 2
    return tuple(list(zip(tally[:many], tally[many:])))


def is_harmed(row):
    return sum([old for old, _ in row]) == 1 and sum([new for _, new in row]) > 1


def double_tallies(table, more):
    """The tallies, by the doubled table, of all programs."""
    return Tallies(doubled(table, more), CUT, MOST_ROWS, True)


def harmed(table, more):
    tallies = double_tallies(table, more)
    program = tallies.least_program([tally for tally in tallies.known if is_harmed(row_of(tally))])
    if program is None:
        return None
    reading = reading_by(table, program, {}, 0)
    return (program, reading, other_reading(with_entries(table, more), program, reading, ()))


def harmless_paper(table, more):
    rows = sorted([row_of(tally) for tally in double_tallies(table, more).known])
    if any([is_harmed(row) for row in rows]):
        return None
    return tuple(rows)


def is_row(table, thing):
    if not isinstance(thing, tuple) or len(thing) != table[0]:
        return False
    return all([are_below(numbers, CUT + 1) and len(numbers) == 2 for numbers in thing])


def unlike_seen(sums, sign, place, tallies):
    """One for all tallies that the sign does not tell apart at a place."""
    return list({sums.seen_as(sign, place, tally): tally for tally in tallies}.values())


def come_of(sums, sign, parts, tallies):
    """The tallies, cut, that come of a sign, its parts having these tallies."""
    if parts == 2:
        others = unlike_seen(sums, sign, 1, tallies)
        numbers = []
        for tally in unlike_seen(sums, sign, 0, tallies):
            given = sums.given_by(sign, 0, tally)
            numbers.extend([sums.numbers_beside(given, other) for other in others])
    elif parts == 1:
        numbers = [sums.numbers_of(sign, (tally,)) for tally in unlike_seen(sums, sign, 0, tallies)]
    else:
        numbers = [sums.numbers_of(sign, ())]
    return [tuple([min(number, CUT) for number in row]) for row in numbers]


def is_harmless_paper(table, more, thing):
    if not isinstance(thing, tuple) or not all([is_row(table, row) for row in thing]):
        return False
    if not is_ascending(thing) or any([is_harmed(row) for row in thing]):
        return False
    sums = Sums(doubled(table, more))
    tallies = {tuple([old for old, _ in row] + [new for _, new in row]): True for row in thing}
    for sign, parts in enumerate(table[1]):
        if not all([tally in tallies for tally in come_of(sums, sign, parts, tallies)]):
            return False
    return True


def lone_tallies(table):
    """The tallies by the table, cut, of the programs that may stand in one that has just one reading."""
    return [tally for tally in Tallies(table, CUT, MOST_ROWS, False).known if 1 in tally]


def trace_steps(table, more):
    """The list of the tuples (bit, marks of the parts, mark of the whole) by which readings by the greater table come.

    A mark is a tuple (tally of the program by the table, kind of the reading). The bit is that of the index
    in more of the entry at the top, 0 if the table has it.
    """
    sums = Sums(table)
    lone = lone_tallies(table)
    bits = {entry: 1 << index for index, entry in enumerate(more) if entry not in table[2]}
    entries = with_entries(table, more)[2]
    steps = []
    for sign, parts in enumerate(table[1]):
        for below in rows_over([lone] * parts):
            tally = tuple([min(number, CUT) for number in sums.numbers_of(sign, below)])
            if 1 in tally:
                for entry in entries:
                    if entry[0] == sign:
                        marks = tuple(list(zip(below, entry[1])))
                        steps.append((bits.get(entry, 0), marks, (tally, entry[2])))
    return steps


def has_all(bits, others):
    """Whether of one of the others, none of which is 0, all bits are there."""
    return any([other & bits == other for other in others])


class Traces:
    """For each mark, the least traces of its readings; and those that a lot of more has exactly if it is not harmless.

    The trace of a reading has the bits of the entries of more, but those of the table, that stand in it. A program
    with just one reading by the table gets another one by a reading that has a trace.
    """

    def __init__(self, steps):
        self.harmful = []
        self.traces = {}
        changed = True
        while changed:
            changed = False
            for bit, parts, whole in steps:
                for below in rows_over([self.traces.get(part, []) for part in parts]):
                    trace = bit
                    for part in below:
                        trace = trace | part
                    if self.takes(trace, whole):
                        changed = True

    def takes(self, trace, mark):
        """Takes a trace if it tells more than those that are known, and tells whether it did."""
        known = self.traces.setdefault(mark, [])
        if trace in known or has_all(trace, self.harmful) or has_all(trace, [other for other in known if other]):
            return False
        # A reading of the table has no trace: beside it, others still have to be known.
        self.traces[mark] = [other for other in known if trace == 0 or other & trace != trace] + [trace]
        if trace and sum(mark[0]) == 1:
            self.harmful.append(trace)
        return True


def wider_by_one(lot, more):
    return [tuple(sorted([*lot, entry])) for entry in more if entry not in lot]


def harmless_lots(table, more):
    if len(more) > MOST_MORE:
        raise TooMany(MOST_MORE)
    # These are not asked for here, but there may be too many of them.
    double_tallies(table, more)
    harmful = Traces(trace_steps(table, more)).harmful
    lots = {}
    for lot in lots_of(more):
        bits = sum([1 << more.index(entry) for entry in lot])
        if not has_all(bits, harmful):
            lots[lot] = True
    # If a lot lies in a greater one that is harmless, so it does in one with just one entry more.
    return [lot for lot in lots if not any([wider in lots for wider in wider_by_one(lot, more)])]
