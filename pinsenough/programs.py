"""Nodes of programs and contexts, what stands there, and other numbers for kinds and signs."""

from pinsenough.forms import tops_of


def shape_of(program):
    """For each node its sign, None at the hole, and the tuple of the nodes of its parts' tops."""
    tops = tops_of(program)
    widths = [1] * len(tops)
    shape = [(None, ())] * len(tops)
    for node in reversed(range(len(tops))):
        if tops[node] is not None:
            nodes = []
            behind = node + 1
            for _ in tops[node][1:]:
                nodes.append(behind)
                behind += widths[behind]
            widths[node] = behind - node
            shape[node] = (tops[node][0], tuple(nodes))
    return shape


def grown(nodes):
    """The program that has, in order, nodes of these signs, None being the hole, and numbers of parts."""
    built = []
    for sign, many in reversed(nodes):
        parts = [built.pop() for _ in range(many)]
        if sign is None:
            built.append(None)
        else:
            built.append((sign, *parts))
    return built[0]


def size_of(program):
    return len([top for top in tops_of(program) if top is not None])


def program_at(program, node):
    return tops_of(program)[node]


def parts_at(program, node):
    return shape_of(program)[node][1]


def reading_at(program, reading, node):
    return reading[node:node + len(tops_of(program_at(program, node)))]


def put_at(program, node, other):
    tops = tops_of(program)
    shape = shape_of(program)
    way = []
    at = 0
    while at != node:
        nodes = shape[at][1]
        place = len([part for part in nodes if part <= node])
        way.append((tops[at], place))
        at = nodes[place - 1]
    put = other
    for top, place in reversed(way):
        put = (*top[:place], put, *top[place + 1:])
    return put


def hole_of(context):
    return tops_of(context).index(None)


def filled(context, other):
    return put_at(context, hole_of(context), other)


def context_of(program, node):
    return put_at(program, node, None)


def renumbered(table, kinds, signs):
    entries = []
    for sign, parts, kind in table[2]:
        entries.append((signs.index(sign), renumbered_reading(parts, kinds), kinds.index(kind)))
    return (table[0], tuple([table[1][sign] for sign in signs]), tuple(sorted(entries)))


def renumbered_program(program, signs):
    nodes = []
    for sign, parts in shape_of(program):
        if sign is None:
            nodes.append((None, 0))
        else:
            nodes.append((signs.index(sign), len(parts)))
    return grown(nodes)


def renumbered_reading(reading, kinds):
    return tuple([kinds.index(kind) for kind in reading])
