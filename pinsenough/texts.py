"""Tables and programs as texts."""

LETTERS = "abcdefghijklmnopqrstuvwxyz"
LONGEST_NAME = 8


def is_name(thing):
    if not isinstance(thing, str) or not 1 <= len(thing) <= LONGEST_NAME:
        return False
    return all([letter in LETTERS for letter in thing])


def are_unlike_names(thing):
    if not isinstance(thing, tuple) or not all([is_name(name) for name in thing]):
        return False
    return len(set(thing)) == len(thing)


def show_entry(names, entry):
    kinds, signs = names
    sign, parts, kind = entry
    return " ".join(["entry", signs[sign], *[kinds[part] for part in parts], "is", kinds[kind]])


def show_table(names, table):
    kinds, signs = names
    lines = [f"kind {kind}" for kind in kinds]
    lines.extend([f"sign {sign} {many}" for sign, many in zip(signs, table[1])])
    lines.extend([show_entry(names, entry) for entry in table[2]])
    return "\n".join(lines)


def in_brackets(parts):
    """The parts with the words that stand around and between them, none if there are no parts."""
    if not parts:
        return []
    row = ["("]
    for part in parts:
        row.extend([part, ","])
    return [*row[:-1], ")"]


def node_word(names, sign, pin):
    kinds, signs = names
    if pin is None:
        return signs[sign]
    return f"{signs[sign]}:{kinds[pin]}"


def show_program(names, program, pins):
    words = []
    node = 0
    waiting = [program]
    while waiting:
        thing = waiting.pop()
        if isinstance(thing, str):
            words.append(thing)
        else:
            words.append(node_word(names, thing[0], pins.get(node)))
            node += 1
            waiting.extend(in_brackets(thing[1:])[::-1])
    return " ".join(words)
