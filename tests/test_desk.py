"""[36], with [14], [15], [3] and [4]: a Live that is led by lines of words."""

import random
import unittest

from pinsenough.desk import Desk
from pinsenough.errors import NoCommand, NoText, Nothing, Wrong
from pinsenough.live import Live
from pinsenough.reader import read_program, read_table
from pinsenough.texts import show_program, show_table
import brute
from brute import MIXED, any_values, layered_tables, lively_tables, some_tables, spoil
from slow import SlowDesk, SlowLive, words_of
from test_growth import TWO
from test_live import PROGRAM, TABLE, outcome, raised, told
from test_needs import MANY

HEAD = "kind a\nkind b\nsign g 0\nsign f 1\nentry g is a\nentry g is b\nentry f a is a\nentry f b is a\nentry f b is b"
TEXT = HEAD + "\nprogram f ( f ( g ) )"
PAIR = "kind one\nkind none\nsign leaf 0\nsign pair 2\nentry leaf is one\nentry pair one one is one\nentry pair one one is none"
ASKED = ("program", "left", "meant", "duties", "kinds 0", "kinds 1")


def slow_least(text):
    """The index of the first line that is BAD, or of the end, None if the text is right: each line is judged by those above."""
    lines = text.split("\n")
    filled = [at for at, line in enumerate(lines) if words_of(line)]
    programs = [at for at in filled if words_of(lines[at])[0] == "program"]
    above = "\n".join(lines[:programs[0]]) if programs else text
    try:
        names, table = read_table(above)
    except NoText as error:
        if error.at < len(above.split("\n")):
            return error.at
        # Just a kind line lacks: the words are judged by the sign lines alone.
        signs = [words_of(line)[1:] for line in above.split("\n") if words_of(line)]
        names, table = ((), tuple(name for name, _ in signs)), (0, tuple(int(many) for _, many in signs), ())
    if not programs:
        return len(lines)
    if programs[0] != filled[-1] or SlowDesk(names, table, (0,), {}).words_read(words_of(lines[programs[0]])[1:]) is None:
        return programs[0]
    return len(lines) if names[0] == () else None


def failed_at(text):
    try:
        Desk(text)
    except NoText as error:
        return error.at
    return None


def names_for(table):
    return (tuple("abcd"[:table[0]]), tuple(("leaf", "f", "g", "h", "kind", "program")[:len(table[1])]))


def both(table, program, pins):
    names = names_for(table)
    text = "\n".join((show_table(names, table), "program " + show_program(names, program, pins)))
    return Desk(text), SlowDesk(names, table, program, pins)


def some_line(slow, programs, rng):
    """A line, mostly one that is a command; now and then something is put in, left out or doubled."""
    kinds = slow.names[0]
    nodes = len(brute.nodes_of(slow.live.program))
    node = rng.choice([rng.randrange(nodes + 1), *slow.live.pins])
    words = rng.choice((
        ["put", str(node), slow.shown(rng.choice(programs), {})], ["pin", str(node), rng.choice(kinds)], ["pin", str(node), rng.choice(kinds)],
        ["unpin", str(node)], ["unpin", str(node)], ["keep", "read"], ["keep", "one"], ["keep", "most", str(rng.randint(0, 3))],
        ["keep", "kind", rng.choice(kinds)], ["free", str(rng.randrange(len(slow.live.told) + 1))], ["undo"], ["undo"], ["redo"], ["redo"],
        ["program"], ["left"], ["meant"], ["duties"], ["kinds", str(node)]))
    words = " ".join(words).split(" ")
    if rng.random() < 0.15:
        at = rng.randrange(len(words) + 1)
        words[at:at + rng.randint(0, 1)] = [rng.choice(("f", "a", "0", "00", "-1", "+1", "01", "keep", "program", ":", "(", ")", "leaf:a", "x", "\n", "1\n",
                                                         "12345", "9999", "undo", "#", "#x", "Left", "1_0", "0x1"))]
    return rng.choice((" ", "  ")).join(words) + rng.choice(("", "", " ", "  # x", "#"))


class DeskTest(unittest.TestCase):
    def test_many_rows_of_lines(self):
        """Beside a slow copy that is written by the words of [36]."""
        seen = {}
        for seed, table in enumerate([TABLE, MIXED, MANY, TWO, *some_tables(25), *lively_tables(40, 0, 4), *layered_tables(15)]):
            rng = random.Random(seed)
            programs = [row for row in brute.some_programs(table, 4, 40) if len(brute.readings_of(table, row)) < 40]
            if not programs:
                continue
            program = rng.choice(programs)
            pins = {node: rng.randrange(table[0]) for node in range(len(brute.nodes_of(program))) if rng.random() < 0.2}
            desk, slow = both(table, program, pins)
            for _ in range(70):
                if len(brute.nodes_of(slow.live.program)) > 7:
                    desk, slow = both(table, program, pins)
                line = some_line(slow, programs, rng)
                wanted = outcome(lambda: slow.execute(line))
                self.assertEqual(outcome(lambda: desk.execute(line)), wanted, (table, line))
                self.assertEqual([desk.execute(word) for word in ASKED[:4]], [slow.execute(word) for word in ASKED[:4]])
                self.assertEqual(told(desk.live()), told(slow.live))
                key = (words_of(line) or [""])[0], str(wanted[1])[:9] if wanted[1] in (["done"], ["refused"]) else wanted[0]
                seen[key] = seen.get(key, 0) + 1
        for word in ("put", "pin", "unpin", "keep", "undo", "redo"):
            self.assertGreater(min(seen.get((word, "['done']"), 0), seen.get((word, "['refused"), 0)), 20, (word, seen))
        self.assertGreater(seen.get(("free", "['done']"), 0), 20)
        for word in ("put", "pin", "unpin", "keep", "free", "kinds", "left", "meant", "duties", "program", "undo"):
            self.assertGreater(seen.get((word, "NoCommand"), 0), 5, (word, seen))

    def test_examples(self):
        desk = Desk("kind a\nkind b\nsign g 0\nsign f 1\nentry g is a\nentry g is b\nentry f a is a\nentry f b is b\nprogram f ( g:a )")
        self.assertEqual([desk.execute(line) for line in ["left", "keep one", "unpin 1", "pin 0 a", "unpin 1", "program", "kinds 1", "meant"]],
                         [["1"], ["done"], ["refused"], ["done"], ["done"], ["f:a ( g )"], ["a"], ["a a"]])
        self.assertEqual([desk.execute("duties"), desk.live().duties()], [["keep one"], [("one",)]])

    def test_commands(self):
        desk = Desk(TEXT)
        for line, answer in (("left", "4"), ("meant", "none"), ("kinds 0", "a b"), ("program", "f ( f ( g ) )"), ("pin 1 b", "done"), ("left", "2"),
                             ("keep most 2", "done"), ("keep kind b", "refused"), ("pin 0 b", "done"), ("keep kind b", "done"), ("keep read", "done"),
                             ("keep one", "done"), ("put 0 f ( g )", "refused"), ("meant", "b b b"), ("kinds 2", "b"), ("free 1", "done"),
                             ("unpin 0", "refused"), ("unpin 2", "refused"), ("undo", "done"), ("undo", "done"), ("redo", "done"), ("redo", "done"),
                             ("redo", "refused"), ("put 1 g", "done"), ("program", "f:b ( g )"), ("meant", "b b"), ("undo", "done"),
                             ("program", "f:b ( f:b ( g ) )"), ("keep most 9999", "done")):
            self.assertEqual(desk.execute(line), [answer], line)
        self.assertEqual(desk.execute("duties"), ["keep most 2", "keep read", "keep one", "keep most 9999"])
        self.assertEqual(desk.execute("keep kind b"), ["done"])
        self.assertEqual(desk.execute("duties")[-1], "keep kind b")
        self.assertEqual(desk.live().duties(), [("most", 2), ("read",), ("one",), ("most", 9999), ("kind", 1)])

    def test_no_reading_left(self):
        desk = Desk(PAIR + "\nprogram pair ( leaf , leaf )")
        for line, answer in (("left", ["2"]), ("pin 1 none", ["done"]), ("left", ["0"]), ("kinds 0", [""]), ("kinds 1", [""]), ("meant", ["none"]),
                             ("duties", []), ("keep read", ["refused"]), ("keep kind one", ["refused"]), ("unpin 1", ["done"]), ("pin 0 none", ["done"]),
                             ("meant", ["none one one"]), ("program", ["pair:none ( leaf , leaf )"]), ("put 0 leaf", ["done"]), ("meant", ["one"])):
            self.assertEqual(desk.execute(line), answer, line)

    def test_words_of_a_line(self):
        """Remarks and blanks as in [15]; a line feed is no blank."""
        desk = Desk(TEXT)
        for line in ("left", "  left", "left  ", " left # of it", "left#", "left#\nleft", "left # a\n b"):
            self.assertEqual(desk.execute(line), ["4"], line)
        self.assertEqual(desk.execute(" pin   2  a #"), ["done"])
        self.assertEqual(desk.execute("put  0   f  ( g )  # again"), ["done"])
        for line in ("", " ", "#", "# left", "\n", "left\n", "\nleft", "le ft", "left\nleft", "left left", "left 0", "put 0 g\n", "pin\n0 a", "LEFT", "lefts"):
            for _ in range(2):
                with self.assertRaises(NoCommand):
                    desk.execute(line)

    def test_more_and_fewer_words(self):
        desk = Desk(TEXT)
        right = ("put 0 f ( g )", "pin 0 a", "unpin 0", "keep read", "keep one", "keep most 3", "keep kind a", "free 0", "undo", "redo", "program", "left",
                 "kinds 0", "meant", "duties")
        desk.execute("keep read")
        for line in right:
            words = line.split(" ")
            self.assertIn(raised(lambda: Desk(TEXT).execute(line)), ("told", "NoCommand") if words[0] == "free" else ("told",))
            for wrong in ([*words, "x"], [*words, "0"], [*words, "a"], ["x", *words], [words[0].upper(), *words[1:]], [*words, *words]):
                self.assertEqual(raised(lambda: desk.execute(" ".join(wrong))), "NoCommand", wrong)
            for at in range(len(words)):
                less = [*words[:at], *words[at + 1:]]
                self.assertEqual(raised(lambda: desk.execute(" ".join(less))), "NoCommand", less)
        self.assertEqual(told(desk.live()), [PROGRAM, {}, [("read",)], 4, [(0, 1)] * 3, None, (0, 1, 1)])

    def test_numbers(self):
        """Indexes as Python shows them, of nodes and duties that are there."""
        desk = Desk(TEXT)
        desk.execute("keep read")
        for word in ("3", "-1", "+1", "00", "01", "1.", "1_0", "0x1", "a", "", "10000", "99999999999999999999", "1e0", "-0", "0:a", "one"):
            for line in (f"pin {word} a", f"put {word} g", f"unpin {word}", f"kinds {word}", f"free {word}"):
                self.assertEqual(raised(lambda: desk.execute(line)), "NoCommand", line)
        self.assertEqual(raised(lambda: desk.execute("free 1")), "NoCommand")
        for word in ("0", "00", "01", "-1", "+1", "10000", "12345", "1a", "one", "1.0", "0x1", "1_0", "999999999"):
            self.assertEqual(raised(lambda: desk.execute(f"keep most {word}")), "NoCommand", word)
        for word in ("1", "2", "3"):
            self.assertEqual(desk.execute(f"keep most {word}"), ["refused"])
        for word in ("4", "10", "999", "1000", "9999"):
            self.assertEqual(desk.execute(f"keep most {word}"), ["done"])
        self.assertEqual([desk.execute("free 5"), desk.execute("free 0"), raised(lambda: desk.execute("free 4"))], [["done"], ["done"], "NoCommand"])

    def test_programs_that_are_put(self):
        desk = Desk(TEXT)
        for words in ("g:a", "f ( g:a )", "f:b ( g )", "h", "f", "f g", "f ( g", "f ( g ) )", "f ( g , g )", "g ( )", "( g )", "f( g )", "g g", "f ( )", "a", ""):
            self.assertEqual(raised(lambda: desk.execute(f"put 0 {words}")), "NoCommand", words)
        self.assertEqual([desk.execute("put 2 f ( g )"), desk.execute("program"), desk.execute("kinds 3")],
                         [["done"], ["f ( f ( f ( g ) ) )"], ["a b"]])
        for words in ("pin 0 c", "pin 0 A", "pin 0 0", "keep kind c", "keep kind 0", "keep kind", "keep all", "keep most a", "keep"):
            self.assertEqual(raised(lambda: desk.execute(words)), "NoCommand", words)

    def test_names_that_are_words_too(self):
        """A kind and a sign may be called as commands are."""
        text = "kind none\nkind most\nkind is\nsign program 0\nsign keep 1\nentry program is none\nentry keep none is most\nentry keep none is is\n"
        desk = Desk(text + "program keep:is ( program )")
        for line, answer in (("meant", "is none"), ("program", "keep:is ( program )"), ("keep kind is", "done"), ("keep kind most", "refused"), ("unpin 0", "refused"),
                             ("keep most 1", "done"), ("put 1 program", "done"), ("kinds 1", "none"), ("kinds 0", "is")):
            self.assertEqual(desk.execute(line), [answer], line)
        self.assertEqual(desk.execute("duties"), ["keep kind is", "keep most 1"])
        self.assertEqual(Desk("kind none\nsign program 0\nentry program is none\nprogram program").execute("meant"), ["none"])

    def test_pins_from_the_beginning(self):
        desk = Desk(HEAD + "\nprogram f:b ( f ( g:b ) )")
        live = desk.live()
        self.assertEqual([live.pins_now(), live.program_now(), live.left(), live.duties()], [{0: 1, 2: 1}, PROGRAM, 1, []])
        self.assertEqual([desk.execute("undo"), raised(live.back), raised(live.again)], [["refused"], "Nothing", "Nothing"])
        self.assertEqual([desk.execute("unpin 2"), desk.execute("program")], [["done"], ["f:b ( f ( g ) )"]])
        self.assertEqual([desk.execute("undo"), desk.execute("program"), desk.execute("undo")], [["done"], ["f:b ( f ( g:b ) )"], ["refused"]])
        same = Live(TABLE, PROGRAM)
        same.pin(2, 1)
        same.pin(0, 1)
        self.assertTrue(desk.live() == same)
        self.assertEqual(list(desk.live().pins_now()), [0, 2])

    def test_live_is_a_twin(self):
        desk = Desk(TEXT)
        desk.execute("pin 0 a")
        desk.execute("pin 1 a")
        desk.execute("undo")
        live = desk.live()
        self.assertEqual([live.again(), live.pins_now(), desk.execute("program")], [None, {0: 0, 1: 0}, ["f:a ( f ( g ) )"]])
        live.put(0, (0,))
        self.assertEqual([desk.execute("redo"), desk.execute("program"), live.program_now()], [["done"], ["f:a ( f:a ( g ) )"], (0,)])
        other = desk.live()
        desk.execute("unpin 0")
        self.assertEqual([other.pins_now(), desk.live() == other, desk.live() == desk.live()], [{0: 0, 1: 0}, False, True])

    def test_texts(self):
        for text, at in ((TEXT, None), (HEAD, 9), ("", 1), ("\n\n", 3), ("program g", 0), ("sign g 0\nprogram g", 2), ("sign g 0\nprogram h", 1),
                         ("sign g 0\nprogram g:a", 1), ("kind a", 1), ("kind a\nprogram g", 1), ("kind a\nsign g 0\nprogram g", None),
                         ("kind a\nsign g 0\nprogram g\n", None), ("kind a\nsign g 0\nprogram g\n # x\n\n", None), ("kind a\nsign g 0\nprogram", 2),
                         ("kind a\nsign g 0\nprogram # g", 2), ("kind a\nsign g 0\nprogram g # h", None), ("kind a\nsign g 0\n  program   g  ", None),
                         ("kind a\nsign g 0\nprogram g\nprogram g", 2), ("program g\nkind a\nsign g 0\nprogram g", 0),
                         ("kind a\nsign g 0\nprogram g\nentry g is a", 2), ("kind a\nprogram g\nsign g 0", 1), ("kind a\nsign g 0\nprogram g\nkind b", 2),
                         ("kind a\nkind a\nsign g 0\nprogram h", 1), ("kind a\nsign g 0\nprogram g\nkind a", 2), ("kind a\nsign g 0\nprogram h\nx", 2),
                         ("kind a\nsign g 0\nx\nprogram g", 2), ("kind a\nsign g 0\nprogram g g", 2), ("kind a\nsign g 3\nprogram g", 1),
                         ("kind a\nsign f 1\nsign g 0\nprogram f ( g:a )", None), ("kind a\nsign f 1\nsign g 0\nprogram f:a ( g", 3),
                         ("kind a\nsign g 0\nprogram g:b", 2), ("kind a\nsign g 0\nprograms g", 2), ("kind a\nsign g 0\nentry g is b\nprogram g", 2),
                         ("sign g 0\nkind a\nprogram g", 1), ("sign g 0\nsign f 1\n# x\nprogram f ( g )", 4), ("sign g 0\nsign f 1\n# x\nprogram f ( g ) )", 3)):
            self.assertEqual([failed_at(text), slow_least(text)], [at, at], text)

    def test_texts_with_something_wrong(self):
        """Drawn texts: lines left out, doubled, exchanged, spoilt."""
        seen = {}
        base = (TEXT, HEAD + "\nprogram f:b ( f:a ( g:b ) )", PAIR + "\nprogram pair ( leaf:one , pair ( leaf , leaf ) )", "sign g 0\nsign f 1\nprogram f ( g )")
        for seed in range(3000):
            rng = random.Random(seed)
            lines = rng.choice(base).split("\n")
            for _ in range(rng.choice((0, 1, 1, 2, 3))):
                at = rng.randrange(len(lines))
                lines[at:at + rng.randint(0, 1)] = rng.choice((
                    [], [lines[at]], [rng.choice(lines)], ["# x"], [""], ["  " + lines[at] + "  # y"], [lines[at] + " x"], [lines[at][:-1]], ["program g"],
                    ["kind c"], ["sign h 0"], ["entry g is a"], ["x"], [lines[at].replace(" ", "  ")], [lines[at].replace(":", " : ")]))
                lines = lines or [""]
            text = "\n".join(lines)
            at = slow_least(text)
            self.assertEqual(failed_at(text), at, text)
            key = "right" if at is None else "end" if at == len(lines) else "amid"
            seen[key] = seen.get(key, 0) + 1
        self.assertGreater(min(seen.values()), 200, seen)

    def test_what_is_read(self):
        names, table = read_table(HEAD)
        for words in ("g", "f ( g:b )", "f:a ( f ( g:a ) )"):
            live = Desk(HEAD + "\nprogram " + words).live()
            self.assertEqual((live.program_now(), live.pins_now()), read_program(names, table, words))
            self.assertEqual(Desk(HEAD + "\nprogram " + words).execute("program"), [words])

    def test_any_value(self):
        desk = Desk(TEXT)
        for value in any_values():
            if isinstance(value, str):
                at = slow_least(value)
                self.assertEqual(failed_at(value), at)
                self.assertEqual(raised(lambda: desk.execute(value)), "NoCommand")
            else:
                self.assertEqual([outcome(lambda: Desk(value)), outcome(lambda: desk.execute(value))], [("Wrong", 0), ("Wrong", 0)])
        for value in (desk, desk.live(), b"left", ["left"], ("left",), Live(TABLE, PROGRAM), SlowLive(TABLE, PROGRAM)):
            self.assertEqual([outcome(lambda: Desk(value)), outcome(lambda: desk.execute(value))], [("Wrong", 0), ("Wrong", 0)])
        self.assertEqual(told(desk.live()), told(Live(TABLE, PROGRAM)))

    def test_long_texts(self):
        deep = "f ( " * 150 + "g" + " )" * 150
        desk = Desk(HEAD + "\nprogram " + deep)
        self.assertEqual([desk.execute("left"), desk.execute("program"), desk.execute("pin 150 a")], [["152"], [deep], ["done"]])
        self.assertEqual([desk.execute("kinds 150"), raised(lambda: desk.execute("kinds 151")), desk.execute("left")], [["a"], "NoCommand", ["1"]])
        self.assertEqual([desk.execute(f"put 150 {deep}"), raised(lambda: desk.execute(f"put 0 {deep[:-2]}"))], [["done"], "NoCommand"])
        self.assertEqual([len(desk.live().kinds_now()), desk.execute("undo"), desk.execute("put 2 g"), desk.execute("program")],
                         [301, ["done"], ["done"], ["f ( f ( g ) )"]])

    def test_what_is_returned_is_new(self):
        desk = Desk(TEXT)
        desk.execute("keep most 4")
        desk.execute("keep read")
        for line in ASKED:
            first, again = desk.execute(line), desk.execute(line)
            spoil(first)
            self.assertEqual([type(again), desk.execute(line)], [list, again])

    def test_errors(self):
        desk = Desk(TEXT)
        for error, call in ((NoCommand, lambda: desk.execute("x")), (Wrong, lambda: desk.execute(None)), (NoText, lambda: Desk("x")), (Wrong, lambda: Desk(0)),
                            (Nothing, desk.live().back)):
            with self.assertRaises(error):
                call()


if __name__ == "__main__":
    unittest.main()
