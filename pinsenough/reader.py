"""Tables and programs from texts."""

from pinsenough.errors import NoText, Wrong
from pinsenough.forms import is_table
from pinsenough.programs import grown
from pinsenough.texts import are_unlike_names, in_brackets, is_name

NUMBERS_OF_PARTS = ("0", "1", "2")


def words_of(line):
    return [word for word in line.partition("#")[0].split(" ") if word]


class Draft:
    """What the lines that were taken tell of a table."""

    def __init__(self):
        self.kinds = []
        self.signs = []
        self.parts = []
        self.entries = []

    def takes(self, words):
        """Takes the words of a line, and tells whether it could; a BAD line changes nothing."""
        if words[0] == "kind":
            return self.takes_kind(words)
        if words[0] == "sign":
            return self.takes_sign(words)
        return words[0] == "entry" and self.takes_entry(words)

    def takes_kind(self, words):
        if len(words) != 2 or not is_name(words[1]) or words[1] in self.kinds:
            return False
        # An entry line needs a sign line above it, so signs alone tell of lines of other sorts.
        if self.signs:
            return False
        self.kinds.append(words[1])
        return True

    def takes_sign(self, words):
        if len(words) != 3 or not is_name(words[1]) or words[1] in self.signs:
            return False
        if words[2] not in NUMBERS_OF_PARTS or self.entries:
            return False
        self.signs.append(words[1])
        self.parts.append(int(words[2]))
        return True

    def takes_entry(self, words):
        if len(words) < 2 or words[1] not in self.signs:
            return False
        sign = self.signs.index(words[1])
        # Names may be "is", too: only its place tells which word it is.
        last = self.parts[sign] + 2
        if len(words) != last + 2 or words[last] != "is":
            return False
        names = [*words[2:last], words[last + 1]]
        if not all([name in self.kinds for name in names]):
            return False
        *parts, kind = [self.kinds.index(name) for name in names]
        entry = (sign, tuple(parts), kind)
        if entry in self.entries:
            return False
        self.entries.append(entry)
        return True

    def names(self):
        return (tuple(self.kinds), tuple(self.signs))

    def table(self):
        return (len(self.kinds), tuple(self.parts), tuple(sorted(self.entries)))


def read_table(text):
    if not isinstance(text, str):
        raise Wrong(0)
    draft = Draft()
    lines = text.split("\n")
    for at, line in enumerate(lines):
        words = words_of(line)
        if words and not draft.takes(words):
            raise NoText(at)
    if not draft.kinds:
        raise NoText(len(lines))
    return (draft.names(), draft.table())


def node_told(names, word):
    """The tuple (sign, pin) that a word tells, pin being perhaps None; None if it tells no node."""
    kinds, signs = names
    name, colon, kind = word.partition(":")
    if name not in signs:
        return None
    if not colon:
        return (signs.index(name), None)
    if kind not in kinds:
        return None
    return (signs.index(name), kinds.index(kind))


def nodes_told(names, parts, words):
    """The list of the tuples (sign, pin) of the nodes of the program that the words are."""
    nodes = []
    # The words that are still to come, None standing for those of a whole program.
    awaited = [None]
    for at, word in enumerate(words):
        if not awaited:
            raise NoText(at)
        wanted = awaited.pop()
        if wanted is None:
            node = node_told(names, word)
            if node is None:
                raise NoText(at)
            nodes.append(node)
            awaited.extend(in_brackets([None] * parts[node[0]])[::-1])
        elif word != wanted:
            raise NoText(at)
    if awaited:
        raise NoText(len(words))
    return nodes


def program_told(names, parts, words):
    """The tuple (program, pins) that the words are, parts having the number of parts of each sign."""
    nodes = nodes_told(names, parts, words)
    program = grown([(sign, parts[sign]) for sign, _ in nodes])
    return (program, {node: pin for node, (_, pin) in enumerate(nodes) if pin is not None})


def are_names(thing):
    return isinstance(thing, tuple) and len(thing) == 2 and all([are_unlike_names(part) for part in thing])


def are_as_many(names, table):
    return len(names[0]) == table[0] and len(names[1]) == len(table[1])


def read_program(names, table, text):
    told = is_table(table)
    if not are_names(names) or told and not are_as_many(names, table):
        raise Wrong(0)
    if not told:
        raise Wrong(1)
    if not isinstance(text, str):
        raise Wrong(2)
    words = [word for word in text.replace("\n", " ").split(" ") if word]
    return program_told(names, table[1], words)
