"""A Live and a Desk by the words of [35] and [36], with all readings gone through: slow, and with errors as tuples."""

import re

import brute

NAME = re.compile(r"[a-z]{1,8}")


def width(program):
    return 1 + sum(width(part) for part in program[1:])


def put_at(program, node, other):
    if node == 0:
        return other
    parts, behind = list(program[1:]), 1
    for place, part in enumerate(parts):
        if behind <= node < behind + width(part):
            parts[place] = put_at(part, node - behind, other)
        behind += width(part)
    return (program[0], *parts)


def is_integer(thing):
    return type(thing) is int


def is_program(table, thing):
    if type(thing) is not tuple or not thing or type(thing[0]) is not int or not 0 <= thing[0] < len(table[1]):
        return False
    return len(thing) == 1 + table[1][thing[0]] and all(is_program(table, part) for part in thing[1:])


class Refused(Exception):
    """An error that a call of the Live would raise: its class's name, and its field."""


class SlowLive:
    def __init__(self, table, program, pins=None):
        self.table, self.program, self.pins, self.told = table, program, dict(pins or {}), []
        self.past, self.future = [], []

    def state(self):
        return (self.program, dict(self.pins), list(self.told))

    def same(self, other):
        return self.table == other.table and self.state() == other.state()

    def readings(self, program=None, pins=None):
        program, pins = self.program if program is None else program, self.pins if pins is None else pins
        return [row for row in brute.readings_of(self.table, program) if all(row[node] == kind for node, kind in pins.items())]

    def is_duty(self, thing):
        if type(thing) is not tuple or not thing or type(thing[0]) is not str:
            return False
        if thing in (("read",), ("one",)):
            return True
        if len(thing) != 2 or type(thing[1]) is not int:
            return False
        return thing[0] == "most" and thing[1] >= 1 or thing[0] == "kind" and 0 <= thing[1] < self.table[0]

    def holds(self, duty, readings):
        return {"read": lambda: len(readings) >= 1, "one": lambda: len(readings) == 1,
                "most": lambda: 1 <= len(readings) <= duty[1],
                "kind": lambda: readings != [] and all(row[0] == duty[1] for row in readings)}[duty[0]]()

    def change(self, program, pins, told):
        readings = self.readings(program, pins)
        for duty in told:
            if not self.holds(duty, readings):
                raise Refused("Broken", duty)
        self.past.append(self.state())
        self.future = []
        self.program, self.pins, self.told = program, pins, told

    def check(self, place, right):
        if not right:
            raise Refused("Wrong", place)

    def is_node(self, node):
        return is_integer(node) and 0 <= node < width(self.program)

    def put(self, node, program):
        self.check(0, self.is_node(node))
        self.check(1, is_program(self.table, program))
        old = width(brute.nodes_of(self.program)[node])
        pins = {}
        for at, kind in self.pins.items():
            if at < node:
                pins[at] = kind
            if at >= node + old:
                pins[at + width(program) - old] = kind
        self.change(put_at(self.program, node, program), pins, self.told)

    def pin(self, node, kind):
        self.check(0, self.is_node(node))
        self.check(1, is_integer(kind) and 0 <= kind < self.table[0])
        self.change(self.program, {**self.pins, node: kind}, self.told)

    def unpin(self, node):
        self.check(0, self.is_node(node) and node in self.pins)
        self.change(self.program, {at: kind for at, kind in self.pins.items() if at != node}, self.told)

    def add_duty(self, duty):
        self.check(0, self.is_duty(duty))
        self.change(self.program, self.pins, [*self.told, duty])

    def drop_duty(self, index):
        self.check(0, is_integer(index) and 0 <= index < len(self.told))
        duty = self.told[index]
        self.change(self.program, self.pins, self.told[:index] + self.told[index + 1:])
        return duty

    def back(self):
        if not self.past:
            raise Refused("Nothing", None)
        self.future.append(self.state())
        self.program, self.pins, self.told = self.past.pop()

    def again(self):
        if not self.future:
            raise Refused("Nothing", None)
        self.past.append(self.state())
        self.program, self.pins, self.told = self.future.pop()

    def program_now(self):
        return self.program

    def pins_now(self):
        return dict(sorted(self.pins.items()))

    def duties(self):
        return list(self.told)

    def left(self):
        return len(self.readings())

    def kinds_now(self):
        readings = self.readings()
        return [tuple(sorted({row[node] for row in readings})) for node in range(width(self.program))]

    def meant(self):
        readings = self.readings()
        return readings[0] if len(readings) == 1 else None

    def best_pin(self):
        readings = self.readings()
        if len(readings) <= 1:
            return None
        found = []
        for node in range(width(self.program)):
            for kind in range(self.table[0]):
                many = sum(row[node] == kind for row in readings)
                if node not in self.pins and many > 0:
                    found.append((many, node, kind))
        many, node, kind = min(found)
        return (node, kind, many)

    def twin(self):
        other = SlowLive(self.table, self.program, self.pins)
        other.told, other.past, other.future = list(self.told), list(self.past), list(self.future)
        return other


def words_of(line):
    return [word for word in line.split("#")[0].split(" ") if word != ""]


def index_of(word, many):
    return int(word) if re.fullmatch("0|[1-9][0-9]*", word) and len(word) < 6 and int(word) < many else None


class SlowDesk:
    """The text is given as read: names, table, program, pins."""

    def __init__(self, names, table, program, pins):
        self.names, self.live = names, SlowLive(table, program, pins)

    def words_read(self, words):
        """The program and the pins that words are, None if they are none."""
        text = " ".join(words)
        pins, node = {}, 0

        def read(left):
            nonlocal node
            match = re.match(r"([a-z]+)(:([a-z]+))?( |$)", left)
            if not match or match[1] not in self.names[1] or match[3] is not None and match[3] not in self.names[0]:
                raise ValueError
            if match[3] is not None:
                pins[node] = self.names[0].index(match[3])
            node += 1
            sign, left = self.names[1].index(match[1]), left[match.end():]
            parts = []
            for place in range(self.live.table[1][sign]):
                sep = "( " if place == 0 else ", "
                if not left.startswith(sep):
                    raise ValueError
                part, left = read(left[2:])
                parts.append(part)
            if parts:
                if left != ")" and not left.startswith(") "):
                    raise ValueError
                left = left[2:]
            return (sign, *parts), left

        try:
            program, left = read(text)
        except ValueError:
            return None
        return None if left else (program, pins)

    def shown(self, program, pins):
        words, node = [], 0

        def show(top):
            nonlocal node
            pin = f":{self.names[0][pins[node]]}" if node in pins else ""
            words.append(self.names[1][top[0]] + pin)
            node += 1
            for place, part in enumerate(top[1:]):
                words.append("(" if place == 0 else ",")
                show(part)
            if top[1:]:
                words.append(")")

        show(program)
        return " ".join(words)

    def duty_line(self, duty):
        last = {"most": lambda: f" {duty[1]}", "kind": lambda: f" {self.names[0][duty[1]]}"}.get(duty[0], lambda: "")()
        return f"keep {duty[0]}{last}"

    def execute(self, line):
        words, live = words_of(line), self.live
        kinds = self.names[0]
        node = index_of(words[1], width(live.program)) if len(words) > 1 else None
        if words == ["program"]:
            return [self.shown(live.program, live.pins)]
        if words == ["left"]:
            return [str(live.left())]
        if words == ["meant"]:
            return ["none" if live.meant() is None else " ".join(kinds[kind] for kind in live.meant())]
        if words == ["duties"]:
            return [self.duty_line(duty) for duty in live.told]
        if words[:1] == ["kinds"] and len(words) == 2 and node is not None:
            return [" ".join(kinds[kind] for kind in live.kinds_now()[node])]
        return self.done(self.change_of(words, node))

    def change_of(self, words, node):
        live, kinds = self.live, self.names[0]
        if words == ["undo"]:
            return live.back
        if words == ["redo"]:
            return live.again
        if words in (["keep", "read"], ["keep", "one"]):
            return lambda: live.add_duty((words[1],))
        if len(words) == 3 and words[:2] == ["keep", "most"] and re.fullmatch("[1-9][0-9]{0,3}", words[2]):
            return lambda: live.add_duty(("most", int(words[2])))
        if len(words) == 3 and words[:2] == ["keep", "kind"] and words[2] in kinds:
            return lambda: live.add_duty(("kind", kinds.index(words[2])))
        if len(words) == 2 and words[0] == "free" and index_of(words[1], len(live.told)) is not None:
            return lambda: live.drop_duty(int(words[1]))
        if node is None:
            return None
        if len(words) == 2 and words[0] == "unpin":
            return lambda: live.unpin(node)
        if len(words) == 3 and words[0] == "pin" and words[2] in kinds:
            return lambda: live.pin(node, kinds.index(words[2]))
        told = self.words_read(words[2:])
        if words[0] == "put" and told is not None and not told[1]:
            return lambda: live.put(node, told[0])
        return None

    def done(self, change):
        if change is None:
            raise Refused("NoCommand", None)
        try:
            change()
        except Refused:
            return ["refused"]
        return ["done"]
