"""Kinds that programs have, and least programs that have them."""


def least_sizes(steps):
    """From each whole that comes about to the size of the least program that has it.

    steps are tuples (sign, parts, whole): as entries of a table are, with kinds as wholes,
    but wholes and parts may be whatever a dict takes as a key.
    """
    sizes = {}
    changed = True
    while changed:
        changed = False
        for _, parts, whole in steps:
            size = size_by(sizes, parts)
            if size is not None and size < sizes.get(whole, size + 1):
                sizes[whole] = size
                changed = True
    return sizes


def size_by(sizes, parts):
    """The size of a program with least programs of these parts, None if there are none."""
    if not all([part in sizes for part in parts]):
        return None
    return 1 + sum([sizes[part] for part in parts])


def made_kinds(table):
    return sorted(least_sizes(table[2]))


def least_program(entries, sizes, least, kind):
    """The least program of the least size for a kind, those of all lesser sizes being in least."""
    found = []
    for sign, parts, whole in entries:
        if whole == kind and size_by(sizes, parts) == sizes[kind]:
            found.append((sign, *[least[part] for part in parts]))
    return min(found)


def least_programs(table):
    sizes = least_sizes(table[2])
    least = {}
    for _, kind in sorted([(sizes[whole], whole) for whole in sizes]):
        least[kind] = least_program(table[2], sizes, least, kind)
    return {kind: least[kind] for kind in sorted(least)}


def met_entries(table, wanted):
    """The entries that some node has in some reading, of a kind of wanted, of some program."""
    sizes = least_sizes(table[2])
    useful = [entry for entry in table[2] if size_by(sizes, entry[1]) is not None]
    met = {kind: True for kind in wanted}
    waiting = list(wanted)
    while waiting:
        kind = waiting.pop()
        for _, parts, whole in useful:
            if whole == kind:
                new = sorted(set([part for part in parts if part not in met]))
                met.update({part: True for part in new})
                waiting.extend(new)
    return [entry for entry in useful if entry[2] in met]


def met_kinds(table, wanted):
    return sorted({kind for _, _, kind in met_entries(table, wanted)})


def trimmed(table, wanted):
    return (table[0], table[1], tuple(met_entries(table, wanted)))
