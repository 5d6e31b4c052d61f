"""[15], with [4]: tables and programs from texts."""

import unittest

from pinsenough.errors import NoText, Wrong
from pinsenough.reader import read_program, read_table
from pinsenough.texts import show_program, show_table
import brute
from brute import BARE, LEAVES, MIXED, any_values, some_tables, spoil
from test_forms import slow_table
from test_texts import names_of

NAMES = (("a", "b"), ("g", "f", "h"))
TABLE = (2, (0, 2, 1), ((0, (), 0), (1, (0, 1), 1)))
HEAD = "kind a\nkind b\nsign g 0\nsign f 2\nsign h 1"


class ReadTableTest(unittest.TestCase):
    def bad(self, text, at):
        for _ in range(2):
            with self.assertRaises(NoText, msg=repr(text)) as told:
                read_table(text)
            self.assertEqual((told.exception.at, type(told.exception.at)), (at, int), repr(text))

    def bad_line(self, line, head=HEAD):
        """The line is BAD behind the head, whatever stands behind it."""
        at = head.count("\n") + 1
        self.bad(f"{head}\n{line}", at)
        self.bad(f"\n{head}\n{line}\nwhat", at + 1)
        self.bad(f"{head}\n  {line} # no\n{line}", at)

    def test_reads(self):
        names, table = read_table(HEAD + "\nentry f a b is b\nentry g is a")
        self.assertEqual((names, table), (NAMES, TABLE))
        self.assertEqual(read_table("kind a"), ((("a",), ()), BARE))
        self.assertEqual(read_table("kind a\nsign a 2"), ((("a",), ("a",)), (1, (2,), ())))

    def test_called_twice(self):
        text = show_table(names_of(MIXED), MIXED)
        first = read_table(text)
        spoil(first)
        self.assertEqual(read_table(text), (names_of(MIXED), MIXED))

    def test_blanks_and_remarks(self):
        text = "# all\n\n  kind   a#b\n kind b # kind c\n   \nsign g 0  \n# sign x\nsign f 2#\nsign h  1\n\nentry  g is a\n" \
               "entry f  a b   is b #is a\n  #"
        self.assertEqual(read_table(text), (NAMES, TABLE))

    def test_entries_in_any_order(self):
        lines = show_table(names_of(MIXED), MIXED).split("\n")
        heads, entries = lines[:6], lines[6:]
        for turn in range(len(entries)):
            text = "\n".join(heads + entries[turn:] + entries[:turn])
            self.assertEqual(read_table(text), (names_of(MIXED), MIXED))

    def test_names_that_are_words(self):
        names = (("is", "kind", "entry"), ("is", "sign", "kind"))
        self.assertEqual(read_table(show_table(names, MIXED)), (names, MIXED))
        self.bad_line("entry is is", "kind is\nsign is 0")
        self.bad_line("entry is is is is", "kind is\nsign is 0")
        self.bad_line("entry is is kind is", "kind is\nkind kind\nsign is 1")

    def test_what_is_shown_is_read_back(self):
        for table in some_tables(80):
            names = names_of(table)
            self.assertEqual(read_table(show_table(names, table)), (names, table))

    def test_longest_names(self):
        text = "kind abcdefgh\nkind z\nsign zyxwvuts 0\nentry zyxwvuts is abcdefgh"
        names, table = read_table(text)
        self.assertEqual((names, table), ((("abcdefgh", "z"), ("zyxwvuts",)), (2, (0,), ((0, (), 0),))))
        self.assertEqual(read_program(names, table, "zyxwvuts:abcdefgh"), ((0,), {0: 0}))

    def test_bad_lines_of_no_form(self):
        for line in ("kinds a", "Kind x", "what", "kind", "kind x y", "kind X", "kind xxxxxxxxx", "kind x1", "kind x_",
                     "kind x:y", "kind\tx", "a", "(", "KIND x", ",", "kind ~", "kind ("):
            self.bad_line(line, "kind a\nkind b")
        for line in ("sign", "sign x", "sign x 3", "sign x 00", "sign x 01", "sign x +1", "sign x -1", "sign x 1 1", "sign x y",
                     "sign X 1", "sign xxxxxxxxx 1", "sign 1 x", "sign x2", "sign x 1,", "sign x 1.0", "Sign x 1"):
            self.bad_line(line)
        for line in ("entry", "entry g", "entry g is", "entry g a", "entry is a", "entry g is a a", "entry g a is",
                     "entry h a b", "entry g IS a", "Entry g is a", "entry g, is a", "entry g:a is a", "entry h is a a"):
            self.bad_line(line)

    def test_bad_lines_with_unknown_names(self):
        for line in ("entry x is a", "entry g is c", "entry f c a is a", "entry f a c is a", "entry h b is g", "entry a is a"):
            self.bad_line(line)

    def test_bad_lines_that_tell_again(self):
        self.bad_line("kind a", "kind a\nkind b")
        self.bad_line("kind b", "kind a\nkind b")
        for line in ("sign g 0", "sign g 2", "sign f 2"):
            self.bad_line(line)
        self.bad_line("entry g is a", HEAD + "\nentry g is a\nentry g is b")
        self.bad_line("entry f  a b is a", HEAD + "\nentry f a b is a\nentry f a b is b\nentry f b a is a")

    def test_bad_lines_with_more_or_fewer_kinds(self):
        for line in ("entry g a is a", "entry f is a", "entry f a is a", "entry f a b a is a", "entry h is a", "entry h a b is a"):
            self.bad_line(line)

    def test_bad_lines_behind_others(self):
        self.bad_line("kind c")
        self.bad_line("kind c", HEAD + "\nentry g is a")
        self.bad_line("sign x 0", HEAD + "\nentry g is a")
        self.bad_line("sign x 0", HEAD + "\n\n\nentry g is a\n # x")

    def test_the_first_bad_line(self):
        self.bad("x\ny\nz", 0)
        self.bad("kind a\n\n\nkind a\nx", 3)
        self.bad("sign g 0\nkind a", 1)
        self.bad("sign g 0\nentry g is a\nkind a", 1)

    def test_no_kind_line(self):
        self.bad("", 1)
        self.bad("\n", 2)
        self.bad("# kind a\n \n", 3)
        self.bad("sign g 0\nsign f 2", 2)
        self.bad("\n\nsign g 0\n", 4)

    def test_any_value(self):
        for value in any_values():
            if type(value) is str:
                with self.assertRaises(NoText) if value != "kind a" else self.subTest():
                    read_table(value)
            else:
                with self.assertRaises(Wrong) as told:
                    read_table(value)
                self.assertEqual((told.exception.place, type(told.exception.place)), (0, int))


class ReadProgramTest(unittest.TestCase):
    def bad(self, text, at, names=NAMES, table=TABLE):
        for _ in range(2):
            with self.assertRaises(NoText, msg=repr(text)) as told:
                read_program(names, table, text)
            self.assertEqual((told.exception.at, type(told.exception.at)), (at, int), repr(text))

    def wrong(self, place, names, table, text):
        with self.assertRaises(Wrong) as told:
            read_program(names, table, text)
        self.assertEqual((told.exception.place, type(told.exception.place)), (place, int))

    def test_reads(self):
        self.assertEqual(read_program(NAMES, TABLE, "g"), ((0,), {}))
        self.assertEqual(read_program(NAMES, TABLE, " \n g:b \n\n"), ((0,), {0: 1}))
        self.assertEqual(read_program(NAMES, TABLE, "f:a ( h\n(\ng:b )  , g )"), ((1, (2, (0,)), (0,)), {0: 0, 2: 1}))

    def test_pins_ascend(self):
        program, pins = read_program(NAMES, TABLE, "f:a ( f ( g:a , h:b ( g ) ) , g:b )")
        self.assertEqual(program, (1, (1, (0,), (2, (0,))), (0,)))
        self.assertEqual(list(pins.items()), [(0, 0), (2, 0), (3, 1), (5, 1)])

    def test_what_is_shown_is_read_back(self):
        for table in some_tables(25):
            names = names_of(table)
            for at, program in enumerate(brute.some_programs(table, 6, 30)):
                many = len(brute.nodes_of(program))
                pins = {node: (node * 5 + at) % table[0] for node in reversed(range(many)) if (node + at) % 3}
                text = show_program(names, program, pins)
                told = read_program(names, table, text)
                self.assertEqual(told, (program, pins))
                self.assertEqual(list(told[1]), sorted(pins))
                spoil(told)
                self.assertEqual(read_program(names, table, text.replace(" ", "\n")), (program, pins))

    def test_deep_programs(self):
        for deep in (39, 700):
            program, pins = read_program(NAMES, TABLE, "h ( " * deep + "g:a" + " )" * deep)
            self.assertEqual(pins, {deep: 0})
            for _ in range(deep):
                self.assertEqual((program[0], len(program)), (2, 2))
                program = program[1]
            self.assertEqual(program, (0,))
            self.bad("h ( " * deep + "g" + " )" * (deep - 1), 3 * deep)
            self.bad("h ( " * deep + "g" + " )" * deep + " )", 3 * deep + 1)

    def test_bad_words(self):
        for text, at in (("x", 0), ("(", 0), ("a", 0), (":a", 0), ("g:", 0), ("g:x", 0), ("g:g", 0), ("g:a:b", 0), ("g:a:", 0), ("G", 0),
                         ("g g", 1), ("g (", 1), ("g ,", 1), ("g )", 1), ("g:a g", 1), ("g ( )", 1), ("# g", 0), ("g # g", 1),
                         ("f g", 1), ("f )", 1), ("f ( )", 2), ("f ( ,", 2), ("f ( g )", 3), ("f ( g g", 3), ("f ( g , )", 4),
                         ("f ( g , g ,", 5), ("f ( g , g g", 5), ("f ( g , g ) )", 6), ("f ( g , g ) g", 6), ("f(", 0),
                         ("h ( g ,", 3), ("h ( g , g )", 3), ("h ( h ( g ) g", 6), ("h g", 1), ("g\tg", 0), ("f ( g , x )", 4),
                         ("f ( g:c , g )", 2), ("f : a ( g , g )", 1), ("f ( g , h ( g ) , g )", 8), ("g,", 0)):
            self.bad(text, at)
            self.bad(f"\n {text} what", at)

    def test_no_whole_program(self):
        words = "f:a ( f ( g , h ( g ) ) , g:b )".split()
        for many in range(len(words)):
            self.bad(" ".join(words[:many]), many)
        self.bad("", 0)
        self.bad(" \n \n", 0)

    def test_programs_that_cannot_end(self):
        names, table = (("a",), ("f",)), (1, (2,), ())
        self.bad("", 0, names, table)
        self.bad("f ( f ( f", 5, names, table)
        self.bad("f ( f )", 3, names, table)
        self.bad("f ( f ( f:b", 4, names, table)
        self.bad("", 0, (("a",), ()), BARE)
        self.bad("f", 0, (("a",), ()), BARE)

    def test_wrong_names(self):
        for names in (None, (), [], ("a", "b"), [("a", "b"), ("g", "f", "h")], (("a", "b"), ["g", "f", "h"]), (("a", "b"),),
                      (("a", "b"), ("g", "f", "h"), ()), (("a", "a"), ("g", "f", "h")), (("a", "b"), ("g", "f", "g")),
                      (("a", "B"), ("g", "f", "h")), (("a", ""), ("g", "f", "h")), (("a", "b"), ("g", "f", "abcdefghi")),
                      (("a", 0), ("g", "f", "h")), (("a", None), ("g", "f", "h")), (("a", ("b",)), ("g", "f", "h")),
                      (("a", "b1"), ("g", "f", "h")), (("a", "b "), ("g", "f", "h"))):
            for table in (TABLE, None, [], (2, (0, 2, 1), ())):
                for text in ("g", None, "?"):
                    self.wrong(0, names, table, text)

    def test_names_not_as_many(self):
        for names in ((("a",), ("g", "f", "h")), (("a", "b", "c"), ("g", "f", "h")), (("a", "b"), ("g", "f")), (("a", "b"), ()), ((), ())):
            for text in ("g", None):
                self.wrong(0, names, TABLE, text)
                self.wrong(1, names, list(TABLE), text)

    def test_wrong_tables_and_texts(self):
        for value in any_values():
            if not slow_table(value):
                self.wrong(1, NAMES, value, None)
                self.wrong(1, NAMES, value, "?")
            self.wrong(0, value, TABLE, value)
            if type(value) is not str:
                self.wrong(2, NAMES, TABLE, value)
        for value in brute.exchanged(TABLE):
            if not slow_table(value):
                self.wrong(1, NAMES, value, 7)

    def test_returned_pins_are_new(self):
        first = read_program(NAMES, TABLE, "h:a ( g )")
        spoil(first)
        self.assertEqual(read_program(NAMES, TABLE, "h:a ( g )"), ((2, (0,)), {0: 0}))

    def test_names_of_both_sorts_may_be_alike(self):
        self.assertEqual(read_program((("a", "b"), ("a", "b")), LEAVES, "b:b ( a:a , a )"), ((1, (0,), (0,)), {0: 1, 1: 0}))


if __name__ == "__main__":
    unittest.main()
