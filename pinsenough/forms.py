"""Whether any value is a table, a program, a reading and the like."""


def is_integer(thing):
    return isinstance(thing, int) and not isinstance(thing, bool)


def is_below(thing, many):
    return is_integer(thing) and 0 <= thing < many


def are_below(thing, many):
    """Whether thing is a tuple of integers from 0 on that are less than many."""
    return isinstance(thing, tuple) and all([is_below(part, many) for part in thing])


def is_ascending(row):
    return all([one < other for one, other in zip(row, row[1:])])


def is_entry(many, signs, thing):
    if not isinstance(thing, tuple) or len(thing) != 3:
        return False
    sign, parts, kind = thing
    if not is_below(sign, len(signs)) or not is_below(kind, many):
        return False
    return are_below(parts, many) and len(parts) == signs[sign]


def is_table(thing):
    if not isinstance(thing, tuple) or len(thing) != 3:
        return False
    many, signs, entries = thing
    if not is_integer(many) or many < 1:
        return False
    if not are_below(signs, 3) or not isinstance(entries, tuple):
        return False
    return all([is_entry(many, signs, entry) for entry in entries]) and is_ascending(entries)


def is_node(signs, thing):
    """Whether thing is a tuple of a sign and as many parts, of any kind, as it has."""
    if not isinstance(thing, tuple) or not thing or not is_below(thing[0], len(signs)):
        return False
    return len(thing) == 1 + signs[thing[0]]


def holes_in(table, thing):
    """The number of holes in what is a program but for them, otherwise -1."""
    holes = 0
    # Programs may be nested deeper than calls may be: so no function here calls itself.
    waiting = [thing]
    while waiting:
        top = waiting.pop()
        if top is None:
            holes += 1
        elif is_node(table[1], top):
            waiting.extend(top[1:])
        else:
            return -1
    return holes


def is_program(table, thing):
    return holes_in(table, thing) == 0


def is_context(table, thing):
    return holes_in(table, thing) == 1


def is_lot(table, thing):
    return are_below(thing, table[0]) and is_ascending(thing)


def tops_of(program):
    """The programs at the nodes of a program or a context, in order, None at the hole."""
    tops = []
    waiting = [program]
    while waiting:
        top = waiting.pop()
        tops.append(top)
        if top is not None:
            waiting.extend(top[:0:-1])
    return tops


def is_reading(table, program, thing):
    tops = tops_of(program)
    if not are_below(thing, table[0]) or len(thing) != len(tops):
        return False
    entries = {entry: True for entry in table[2]}
    below = []
    for node in reversed(range(len(tops))):
        top = tops[node]
        if top is not None:
            # From the last node up, the kinds of the parts lie on top, the first part's uppermost.
            parts = tuple([below.pop() for _ in top[1:]])
            if (top[0], parts, thing[node]) not in entries:
                return False
        below.append(thing[node])
    return True


def are_places(program, thing):
    return are_below(thing, len(tops_of(program))) and is_ascending(thing)


def are_pins(table, program, thing):
    if not isinstance(thing, dict):
        return False
    many = len(tops_of(program))
    return all([is_below(node, many) and is_below(thing[node], table[0]) for node in thing])


def is_closed(table, kind, lots):
    """Whether each lot without the kind in which one of the lots lies is one of them."""
    held = {lot: True for lot in lots}
    for lot in lots:
        # To add one kind at a time is enough, and ends soon even if a table has very many kinds.
        for more in range(table[0]):
            if more != kind and more not in lot and tuple(sorted([*lot, more])) not in held:
                return False
    return True


def is_state(table, thing):
    if not isinstance(thing, tuple) or len(thing) != 2:
        return False
    kind, cheap = thing
    if not is_below(kind, table[0]) or not isinstance(cheap, tuple):
        return False
    if not all([is_lot(table, lot) and lot != () and kind not in lot for lot in cheap]):
        return False
    return is_ascending(cheap) and is_closed(table, kind, cheap)
