"""Rows of kinds that one program has by several readings, and where they lead."""

from pinsenough.made import least_sizes, size_by


def entry_rows(table, sign, width):
    """All tuples of width entries of a sign, in any order, some perhaps the same."""
    entries = [entry for entry in table[2] if entry[0] == sign]
    rows = [()]
    for _ in range(width):
        rows = [(*row, entry) for row in rows for entry in entries]
    return rows


def row_steps(table, width):
    """All tuples (sign, rows of the parts, row of the whole) that width entries of a sign make."""
    steps = []
    for sign, many in enumerate(table[1]):
        for entries in entry_rows(table, sign, width):
            parts = tuple([tuple([entry[1][place] for entry in entries]) for place in range(many)])
            steps.append((sign, parts, tuple([entry[2] for entry in entries])))
    return steps


def had_couples(table):
    return sorted(least_sizes(row_steps(table, 2)))


def had_triples(table):
    return sorted(least_sizes(row_steps(table, 3)))


def is_twin(couple):
    return couple[0] == couple[1]


def apart_steps(table):
    """Steps whose wholes and parts are tuples (couple, apart), apart if it is had apart so."""
    steps = []
    for sign, parts, whole in row_steps(table, 2):
        plain = tuple([(part, False) for part in parts])
        steps.append((sign, plain, (whole, False)))
        if not all([is_twin(couple) for couple in [*parts, whole]]):
            steps.append((sign, plain, (whole, True)))
        else:
            # By one entry twice, readings are unlike only if those of some part are.
            for place in range(len(parts)):
                marked = (*plain[:place], (parts[place], True), *plain[place + 1:])
                steps.append((sign, marked, (whole, True)))
    return steps


def apart_couples(table):
    return sorted([couple for couple, apart in least_sizes(apart_steps(table)) if apart])


def plain_steps(table, width):
    """Steps whose wholes and parts are tuples (row, False), as those of apart_steps are if nothing is apart."""
    steps = []
    for sign, parts, whole in row_steps(table, width):
        steps.append((sign, tuple([(part, False) for part in parts]), (whole, False)))
    return steps


def joined_readings(row, parts):
    """The readings of a whole with this row, of the (program, *readings) of its parts."""
    readings = []
    for index, kind in enumerate(row):
        reading = [kind]
        for part in parts:
            reading.extend(part[1 + index])
        readings.append(tuple(reading))
    return readings


def least_step(steps, sizes, size):
    """The sign and the parts of the first step by which a program of this size comes about."""
    return [(sign, parts) for sign, parts in steps if size_by(sizes, parts) == size][0]


def shown_marks(steps):
    """From each mark that comes about to a tuple (program, *readings), the program of the least size.

    A mark is a tuple: first a row with a kind for each of the readings, then what else a step tells of them.
    """
    sizes = least_sizes(steps)
    leading = {mark: [] for mark in sizes}
    for sign, parts, whole in steps:
        if whole in sizes:
            leading[whole].append((sign, parts))
    found = {}
    for size, mark in sorted([(sizes[whole], whole) for whole in sizes]):
        sign, parts = least_step(leading[mark], sizes, size)
        below = [found[part] for part in parts]
        program = (sign, *[part[0] for part in below])
        found[mark] = (program, *joined_readings(mark[0], below))
    return found


def couple_shown(table, couple):
    return shown_marks(apart_steps(table)).get((couple, False))


def apart_shown(table, couple):
    return shown_marks(apart_steps(table)).get((couple, True))


def leads_of(table):
    had = had_couples(table)
    apart = apart_couples(table)
    found = {}
    for _, parts, whole in row_steps(table, 2):
        for place, part in enumerate(parts):
            others = [*parts[:place], *parts[place + 1:]]
            if all([couple in had for couple in [part, *others]]):
                is_apart = any([couple in apart for couple in others])
                found[(part, whole)] = found.get((part, whole), False) or is_apart
    return [(part, whole, found[(part, whole)]) for part, whole in sorted(found)]
