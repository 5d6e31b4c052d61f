"""A table and a program from a text, led by lines of words."""

from pinsenough.errors import NoCommand, NoText, PinError, Wrong
from pinsenough.forms import tops_of
from pinsenough.live import Live
from pinsenough.reader import Draft, program_told, words_of
from pinsenough.texts import show_program

DIGITS = "0123456789"
MOST_DIGITS = 4


def told_or_none(names, parts, words):
    """What program_told tells, None if the words are no program."""
    try:
        return program_told(names, parts, words)
    except NoText:
        return None


def read_desk(text):
    """The tuple (names, table, program, pins) that a text tells."""
    draft = Draft()
    lines = text.split("\n")
    rows = [(at, words_of(line)) for at, line in enumerate(lines)]
    rows = [(at, words) for at, words in rows if words]
    told = None
    for at, words in rows:
        if words[0] == "program" and at == rows[-1][0]:
            told = told_or_none(draft.names(), draft.parts, words[1:])
        if told is None and not draft.takes(words):
            raise NoText(at)
    if told is None or not draft.kinds:
        raise NoText(len(lines))
    return (draft.names(), draft.table(), *told)


def index_told(word, many):
    """The integer from 0 on, less than many, that a word shows, None if there is none."""
    for index in range(many):
        if word == str(index):
            return index
    return None


def number_told(word):
    """The integer from 1 on, of few digits, that a word shows, None if there is none."""
    if not 1 <= len(word) <= MOST_DIGITS or word[0] == "0":
        return None
    if not all([digit in DIGITS for digit in word]):
        return None
    return int(word)


def all_told(things):
    """The things, None if one of them is None."""
    return None if None in things else things


class Desk:
    def __init__(self, text):
        if not isinstance(text, str):
            raise Wrong(0)
        self.names, self.table, program, pins = read_desk(text)
        self.led = Live(self.table, program)
        self.led.begin_with(pins)

    def live(self):
        return self.led.twin()

    def execute(self, line):
        if not isinstance(line, str):
            raise Wrong(0)
        words = words_of(line)
        if not words:
            raise NoCommand()
        answer = self.answer_to(words)
        if answer is not None:
            return answer
        given = self.given_by(words[0], words[1:])
        if given is None:
            raise NoCommand()
        try:
            self.carry_out(words[0], given)
        except PinError:
            return ["refused"]
        return ["done"]

    def kind_names(self, kinds):
        return " ".join([self.names[0][kind] for kind in kinds])

    def answer_to(self, words):
        """The answer to what asks and changes nothing, None if the words are no such line."""
        if words == ["program"]:
            return [show_program(self.names, self.led.program_now(), self.led.pins_now())]
        if words == ["left"]:
            return [str(self.led.left())]
        if words == ["meant"]:
            reading = self.led.meant()
            return ["none" if reading is None else self.kind_names(reading)]
        if words == ["duties"]:
            return [self.duty_line(duty) for duty in self.led.duties()]
        node = self.node_told(words[1]) if words[0] == "kinds" and len(words) == 2 else None
        return None if node is None else [self.kind_names(self.led.kinds_now()[node])]

    def duty_line(self, duty):
        words = ["keep", duty[0]]
        if duty[0] == "most":
            words.append(str(duty[1]))
        if duty[0] == "kind":
            words.append(self.names[0][duty[1]])
        return " ".join(words)

    def node_told(self, word):
        return index_told(word, len(tops_of(self.led.program_now())))

    def kind_told(self, word):
        return self.names[0].index(word) if word in self.names[0] else None

    def bare_program(self, words):
        told = told_or_none(self.names, self.table[1], words)
        return None if told is None or told[1] else told[0]

    def duty_told(self, words):
        if words in (["read"], ["one"]):
            return (words[0],)
        if len(words) != 2 or words[0] not in ("most", "kind"):
            return None
        told = number_told(words[1]) if words[0] == "most" else self.kind_told(words[1])
        return None if told is None else (words[0], told)

    def given_by(self, word, rest):
        """What Live is to be given by a line that changes it, None if these words are no such line."""
        if word in ("undo", "redo") and not rest:
            return []
        if word == "keep":
            return all_told([self.duty_told(rest)])
        if word == "free" and len(rest) == 1:
            return all_told([index_told(rest[0], len(self.led.duties()))])
        if word == "unpin" and len(rest) == 1:
            return all_told([self.node_told(rest[0])])
        if word == "pin" and len(rest) == 2:
            return all_told([self.node_told(rest[0]), self.kind_told(rest[1])])
        if word == "put" and rest:
            return all_told([self.node_told(rest[0]), self.bare_program(rest[1:])])
        return None

    def carry_out(self, word, given):
        if word == "put":
            self.led.put(*given)
        elif word == "pin":
            self.led.pin(*given)
        elif word == "unpin":
            self.led.unpin(*given)
        elif word == "keep":
            self.led.add_duty(*given)
        elif word == "free":
            self.led.drop_duty(*given)
        elif word == "undo":
            self.led.back()
        else:
            self.led.again()
