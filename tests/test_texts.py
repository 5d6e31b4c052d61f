"""[14]: tables and programs as texts."""

import unittest

from pinsenough.texts import show_program, show_table
import brute
from brute import BARE, LEAVES, LINE, MIXED, some_tables

NAMES = (("a", "b"), ("g", "f"))


def names_of(table):
    return (tuple("abcdefgh"[:table[0]]), tuple("sign" + "abcd"[at] for at in range(len(table[1]))))


def slow_words(names, program, pins, node=0):
    """The words of a program, and the node behind it."""
    word = names[1][program[0]]
    if node in pins:
        word += ":" + names[0][pins[node]]
    words = [word]
    node += 1
    for place, part in enumerate(program[1:]):
        words.append("," if place else "(")
        more, node = slow_words(names, part, pins, node)
        words.extend(more)
    if program[1:]:
        words.append(")")
    return words, node


class TextsTest(unittest.TestCase):
    def test_table(self):
        self.assertEqual(show_table((("a", "b"), ("g", "f")), LEAVES), "kind a\nkind b\nsign g 0\nsign f 2\n"
                         "entry g is a\nentry g is b\nentry f a a is a\nentry f a b is a\nentry f b a is a\nentry f b b is a")
        self.assertEqual(show_table((("is", "kind", "x"), ("is", "entry", "abcdefgh")), MIXED),
                         "kind is\nkind kind\nkind x\nsign is 0\nsign entry 1\nsign abcdefgh 2\nentry is is is\n"
                         "entry entry is is is\nentry entry is is kind\nentry entry kind is kind\n"
                         "entry abcdefgh kind x is x")

    def test_table_edges(self):
        self.assertEqual(show_table((("a",), ()), BARE), "kind a")
        self.assertEqual(show_table((("a",), ("a",)), (1, (2,), ())), "kind a\nsign a 2")

    def test_program(self):
        self.assertEqual(show_program(NAMES, (0,), {}), "g")
        self.assertEqual(show_program(NAMES, (0,), {0: 0}), "g:a")
        self.assertEqual(show_program(NAMES, (1, (0,)), {1: 1}), "f ( g:b )")
        self.assertEqual(show_program(NAMES, (1, (0,), (1, (0,), (0,))), {4: 0, 0: 1}), "f:b ( g , f ( g , g:a ) )")
        self.assertEqual(show_program(NAMES, (1, (1, (0,), (0,)), (0,)), {4: 0, 1: 1}), "f ( f:b ( g , g ) , g:a )")

    def test_programs(self):
        for table in some_tables(25):
            names = names_of(table)
            for at, program in enumerate(brute.some_programs(table, 6, 30)):
                many = len(brute.nodes_of(program))
                pins = {node: (node + at) % table[0] for node in reversed(range(many)) if (node * 7 + at) % 3 == 0}
                before = list(pins.items())
                wanted = " ".join(slow_words(names, program, pins)[0])
                self.assertEqual(show_program(names, program, pins), wanted)
                self.assertEqual(show_program(names, program, pins), wanted)
                self.assertEqual(list(pins.items()), before)

    def test_deep_programs(self):
        for deep in (39, 2500):
            program = brute.nest((0,), deep, lambda part: (1, part))
            self.assertEqual(show_program(NAMES, program, {deep: 1}), "f ( " * deep + "g:b" + " )" * deep)

    def test_lines_have_no_line_feed_behind(self):
        for table in (LINE, LEAVES, MIXED, BARE):
            lines = show_table(names_of(table), table).split("\n")
            self.assertEqual(len(lines), table[0] + len(table[1]) + len(table[2]))
            for line in lines:
                self.assertEqual(line, " ".join(line.split()))


if __name__ == "__main__":
    unittest.main()
