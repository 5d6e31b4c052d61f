"""[35], with [3] and [4]: a program that is led with pins and duties."""

import random
import unittest

from pinsenough.desk import Desk
from pinsenough.errors import Broken, Nothing, PinError, Wrong
from pinsenough.forms import is_program, is_table
from pinsenough.live import Live
from pinsenough.readings import kinds_left, readings_many
import brute
from brute import BARE, LEAVES, LINE, MIXED, PAIRS, UNREAD, any_values, layered_tables, lively_tables, nest, some_tables, spoil
from slow import Refused, SlowLive
from test_growth import TWO
from test_needs import MANY, leafy

TABLE = (2, (0, 1), ((0, (), 0), (0, (), 1), (1, (0,), 0), (1, (1,), 0), (1, (1,), 1)))
PROGRAM = (1, (1, (0,)))
ASKS = ("program_now", "pins_now", "duties", "left", "kinds_now", "meant", "best_pin")
FIELDS = {"Broken": "duty", "Wrong": "place"}


def outcome(call):
    """What a call returns, or the name and the field of the error that it raises."""
    try:
        return ("told", call())
    except PinError as error:
        name = type(error).__name__
        return (name, getattr(error, FIELDS[name]) if name in FIELDS else None)
    except Refused as refused:
        return refused.args


def told(live):
    return [getattr(live, ask)() for ask in ASKS]


def raised(call):
    return outcome(call)[0]


def some_duty(table, rng):
    return rng.choice((("read",), ("one",), ("most", rng.choice((1, 2, 3, 10 ** 39))), ("kind", rng.randrange(table[0]))))


def some_call(slow, programs, values, rng):
    """A method's name and arguments; now and then an argument is not as described."""
    nodes = len(brute.nodes_of(slow.program))
    node = rng.choice([rng.randrange(nodes), rng.randrange(nodes), *slow.pins])
    name = rng.choice(("put", "pin", "pin", "pin", "unpin", "unpin", "add_duty", "add_duty", "drop_duty", "back", "back", "again", "again"))
    given = {"put": [node, rng.choice(programs)], "pin": [node, rng.randrange(slow.table[0])], "unpin": [node],
             "add_duty": [some_duty(slow.table, rng)], "drop_duty": [rng.randrange(len(slow.told) + 1)], "back": [], "again": []}[name]
    if given and rng.random() < 0.1:
        given[rng.randrange(len(given))] = rng.choice(values)
    return name, given


class LiveTest(unittest.TestCase):
    def test_many_rows_of_calls(self):
        """Beside a slow copy that is written by the words of [35]."""
        seen = {}
        values = [value for value in any_values() if value is None or not hasattr(value, "__len__") or len(value) < 100]
        for seed, table in enumerate([TABLE, LINE, LEAVES, MIXED, PAIRS, MANY, TWO, *some_tables(20), *lively_tables(40, 0, 4), *layered_tables(12)]):
            rng = random.Random(seed)
            programs = [row for row in brute.some_programs(table, 5, 60) if len(brute.readings_of(table, row)) < 40]
            if not programs:
                continue
            program = rng.choice(programs)
            live, slow = Live(table, program), SlowLive(table, program)
            for step in range(45):
                if len(brute.nodes_of(slow.program)) > 7:
                    live, slow = Live(table, program), SlowLive(table, program)
                name, given = some_call(slow, programs, values, rng)
                before = repr(given)
                wanted = outcome(lambda: getattr(slow, name)(*given))
                self.assertEqual(outcome(lambda: getattr(live, name)(*given)), wanted, (table, name, given))
                self.assertEqual(repr(given), before)
                self.assertEqual(told(live), told(slow))
                seen[name, wanted[0]] = seen.get((name, wanted[0]), 0) + 1
                if step % 15 == 7:
                    live, slow = live.twin(), slow.twin()
        for name in ("put", "pin", "unpin", "add_duty"):
            for what in ("told", "Broken", "Wrong"):
                self.assertGreater(seen.get((name, what), 0), 10, (name, what, seen))
        for key in (("drop_duty", "told"), ("drop_duty", "Wrong"), ("back", "told"), ("back", "Nothing"), ("again", "told"), ("again", "Nothing")):
            self.assertGreater(seen.get(key, 0), 10, seen)

    def test_examples(self):
        live = Live(TABLE, PROGRAM)
        self.assertEqual([live.left(), live.best_pin(), live.pin(0, 1), live.left(), live.meant(), live.add_duty(("one",))],
                         [4, (0, 1, 1), None, 1, (1, 1, 1), None])
        self.assertEqual([live.put(1, (0,)), live.pins_now(), live.meant(), live.back(), live.program_now(), live.twin() == live],
                         [None, {0: 1}, (1, 1), None, PROGRAM, True])

    def test_new(self):
        live = Live(TABLE, PROGRAM)
        self.assertEqual(told(live), [PROGRAM, {}, [], 4, [(0, 1), (0, 1), (0, 1)], None, (0, 1, 1)])
        self.assertEqual([raised(live.back), raised(live.again)], ["Nothing", "Nothing"])

    def test_constructor(self):
        for value in any_values():
            right = is_table(value)
            for program in (PROGRAM, (0,), value):
                wanted = "Wrong", 0
                if right:
                    wanted = ("told", None) if is_program(value, program) else ("Wrong", 1)
                self.assertEqual(outcome(lambda: Live(value, program) and None), wanted)
            self.assertEqual(outcome(lambda: Live(TABLE, value) and None), ("told", None) if is_program(TABLE, value) else ("Wrong", 1))
            self.assertEqual(outcome(lambda: Live(value, value) and None), ("Wrong", 1 if right else 0))
        for value in (Live(TABLE, PROGRAM), Desk("kind a\nsign g 0\nprogram g")):
            self.assertEqual([outcome(lambda: Live(value, PROGRAM)), outcome(lambda: Live(TABLE, value))], [("Wrong", 0), ("Wrong", 1)])

    def test_any_value(self):
        live, slow = Live(TABLE, PROGRAM), SlowLive(TABLE, PROGRAM)
        for lead in (live, slow):
            lead.pin(1, 1)
            lead.add_duty(("most", 9))
        before = told(live)
        others = [Live(TABLE, PROGRAM), Desk("kind a\nsign g 0\nprogram g"), ("most", 0), ("most", -1), ("most", True), ("most", 1, 1), ("most",),
                  ("kind", 2), ("kind", True), ("kind", -1), ("kind",), ("read", 1), ("one", 1), ["read"], ("reads",), ("read", ), "read",
                  ("one",), ("kind", 1), ("most", "1"), (None, 1), (("read",),), ("Read",), (1, "most"), ("most", [1]), ("kind", None)]
        for value in any_values() + others:
            for name, given in (("put", [value, (0,)]), ("put", [0, value]), ("put", [value, value]), ("pin", [value, 0]), ("pin", [0, value]),
                                ("pin", [value, value]), ("unpin", [value]), ("add_duty", [value]), ("drop_duty", [value])):
                wanted = outcome(lambda: getattr(slow, name)(*given))
                self.assertEqual(outcome(lambda: getattr(live, name)(*given)), wanted, (name, given))
                if wanted[0] == "told":
                    live.back(), slow.back()
                self.assertEqual(told(live), before)
        self.assertEqual(told(slow), before)

    def test_wrong_comes_first(self):
        """Ahead of Broken, and the first argument ahead of the second."""
        live = Live(TABLE, PROGRAM)
        live.add_duty(("most", 4))
        for call, place in ((lambda: live.put(3, None), 0), (lambda: live.put(0, (2,)), 1), (lambda: live.put(True, (0,)), 0), (lambda: live.pin(-1, 5), 0),
                            (lambda: live.pin(0, 2), 1), (lambda: live.pin(0, False), 1), (lambda: live.unpin(0), 0), (lambda: live.unpin(3), 0),
                            (lambda: live.drop_duty(1), 0), (lambda: live.drop_duty(-1), 0), (lambda: live.drop_duty(False), 0)):
            with self.assertRaises(Wrong) as error:
                call()
            self.assertEqual(error.exception.place, place)

    def test_duties_that_just_hold_and_break(self):
        for duty, right, wrong in ((("read",), (0, 0), (1, None)), (("one",), (0, 1), (0, 0)), (("most", 3), (0, 0), (1, None)), (("kind", 1), (0, 1), (0, 0))):
            live = Live(TABLE, PROGRAM)
            live.pin(*right)
            self.assertIsNone(live.add_duty(duty))
            if wrong[1] is not None:
                self.assertEqual(outcome(lambda: live.pin(*wrong)), ("Broken", duty))
            self.assertEqual([live.duties(), live.pins_now()], [[duty], {right[0]: right[1]}])
        live = Live(TABLE, PROGRAM)
        self.assertEqual([outcome(lambda: live.add_duty(("most", 3))), outcome(lambda: live.add_duty(("one",)))],
                         [("Broken", ("most", 3)), ("Broken", ("one",))])
        self.assertEqual([outcome(lambda: live.add_duty(("kind", 0))), live.add_duty(("most", 4)), live.add_duty(("most", 4))],
                         [("Broken", ("kind", 0)), None, None])
        self.assertEqual(live.duties(), [("most", 4), ("most", 4)])

    def test_no_reading_breaks_all_duties(self):
        for duty in (("read",), ("one",), ("most", 9), ("kind", 0)):
            live = Live(MIXED, (0,))
            live.add_duty(duty)
            for call in (lambda: live.put(0, (2, (0,), (0,))), lambda: live.pin(0, 1)):
                self.assertEqual(outcome(call), ("Broken", duty))
            empty = Live(MIXED, (2, (0,), (0,)))
            self.assertEqual(outcome(lambda: empty.add_duty(duty)), ("Broken", duty))
            self.assertEqual([empty.left(), empty.meant(), empty.best_pin(), empty.kinds_now()], [0, None, None, [(), (), ()]])

    def test_unpin_and_put_break(self):
        live = Live(TABLE, PROGRAM)
        live.pin(0, 1)
        live.add_duty(("one",))
        self.assertEqual([outcome(lambda: live.unpin(0)), live.pins_now()], [("Broken", ("one",)), {0: 1}])
        self.assertEqual(outcome(lambda: live.put(0, (0,))), ("Broken", ("one",)))
        self.assertEqual([live.drop_duty(0), live.unpin(0), live.left()], [("one",), None, 4])

    def test_the_first_of_several_is_told(self):
        live = Live(TABLE, PROGRAM)
        live.pin(0, 1)
        for duty in (("read",), ("kind", 1), ("most", 2), ("one",), ("most", 2)):
            live.add_duty(duty)
        self.assertEqual(outcome(lambda: live.unpin(0)), ("Broken", ("kind", 1)))
        self.assertEqual(outcome(lambda: live.pin(1, 0)), ("Broken", ("read",)))
        self.assertEqual(live.drop_duty(1), ("kind", 1))
        self.assertEqual(outcome(lambda: live.unpin(0)), ("Broken", ("most", 2)))
        self.assertEqual(outcome(lambda: live.add_duty(("kind", 0))), ("Broken", ("kind", 0)))
        self.assertEqual(live.duties(), [("read",), ("most", 2), ("one",), ("most", 2)])

    def test_put_moves_pins(self):
        live = Live(LEAVES, (1, (1, (0,), (0,)), (1, (0,), (0,))))
        for node, kind in ((6, 1), (0, 0), (2, 1), (4, 0), (5, 0)):
            live.pin(node, kind)
        self.assertEqual(list(live.pins_now().items()), [(0, 0), (2, 1), (4, 0), (5, 0), (6, 1)])
        live.put(1, (0,))
        self.assertEqual([live.program_now(), live.pins_now()], [(1, (0,), (1, (0,), (0,))), {0: 0, 2: 0, 3: 0, 4: 1}])
        live.put(3, (1, (0,), (0,)))
        self.assertEqual(live.pins_now(), {0: 0, 2: 0, 6: 1})
        live.put(0, (0,))
        self.assertEqual([live.pins_now(), live.left()], [{}, 2])
        live.back()
        live.put(6, (0,))
        self.assertEqual(live.pins_now(), {0: 0, 2: 0})

    def test_back_and_again(self):
        live = Live(TABLE, PROGRAM)
        for call in (lambda: live.pin(0, 1), lambda: live.pin(0, 1), lambda: live.add_duty(("one",)), lambda: live.put(1, (0,)), lambda: live.drop_duty(0),
                     lambda: live.unpin(0)):
            call()
        states = [told(live)]
        for _ in range(6):
            self.assertIsNone(live.back())
            states.append(told(live))
        self.assertEqual(raised(live.back), "Nothing")
        self.assertEqual([states[-1], states[-2][1], states[-3][1]], [told(Live(TABLE, PROGRAM)), {0: 1}, {0: 1}])
        for state in states[-2::-1]:
            self.assertIsNone(live.again())
            self.assertEqual(told(live), state)
        self.assertEqual(raised(live.again), "Nothing")
        self.assertEqual(told(live), states[0])

    def test_again_after_other_changes(self):
        live = Live(TABLE, PROGRAM)
        live.pin(0, 1)
        live.pin(1, 1)
        live.back()
        # What raises an error is nothing that was done.
        for call in (lambda: live.pin(0, 7), lambda: live.add_duty(("kind", 0)), lambda: live.unpin(2), lambda: live.drop_duty(0)):
            self.assertIn(raised(call), ("Wrong", "Broken"))
        told(live)
        self.assertEqual([live.again(), live.pins_now()], [None, {0: 1, 1: 1}])
        live.back()
        live.back()
        live.pin(2, 0)
        self.assertEqual([raised(live.again), live.pins_now(), live.back(), live.pins_now()], ["Nothing", {2: 0}, None, {}])
        self.assertEqual([live.again(), live.pins_now(), raised(live.again)], [None, {2: 0}, "Nothing"])
        live.back()
        self.assertEqual([raised(live.back), live.again(), live.pins_now()], ["Nothing", None, {2: 0}])

    def test_twins_go_on_apart(self):
        live = Live(TABLE, PROGRAM)
        live.pin(0, 1)
        live.pin(1, 1)
        live.back()
        other = live.twin()
        self.assertEqual([other == live, told(other) == told(live)], [True, True])
        other.again()
        self.assertEqual([other.pins_now(), live.pins_now(), other == live], [{0: 1, 1: 1}, {0: 1}, False])
        live.add_duty(("one",))
        self.assertEqual([raised(live.again), other.duties(), other.back(), other.back(), other.pins_now()], ["Nothing", [], None, None, {}])
        self.assertEqual([live.pins_now(), live.duties(), raised(other.back)], [{0: 1}, [("one",)], "Nothing"])
        live.back()
        other.again()
        self.assertEqual(other == live, True)
        third = live.twin().twin()
        third.put(0, (0,))
        self.assertEqual([third == live, live.program_now()], [False, PROGRAM])

    def test_equal(self):
        def led(table=TABLE, program=PROGRAM, pins=(), duties=()):
            live = Live(table, program)
            for node, kind in pins:
                live.pin(node, kind)
            for duty in duties:
                live.add_duty(duty)
            return live

        self.assertTrue(led() == led())
        self.assertTrue(led(pins=((0, 0), (1, 0))) == led(pins=((1, 0), (0, 0))))
        self.assertTrue(led(duties=(("read",), ("most", 4))) == led(duties=(("read",), ("most", 4))))
        for other in (led(program=(1, (0,))), led(pins=((0, 0),)), led(duties=(("read",),)), led(table=(3, TABLE[1], TABLE[2])),
                      led(table=(2, TABLE[1], TABLE[2][1:]))):
            self.assertFalse(led() == other)
            self.assertTrue(led() != other)
        self.assertFalse(led(duties=(("read",), ("most", 4))) == led(duties=(("most", 4), ("read",))))
        self.assertFalse(led(pins=((0, 0),)) == led(pins=((0, 1),)))
        gone = led()
        gone.pin(0, 1)
        gone.back()
        self.assertTrue(gone == led())
        for value in [*any_values(), (TABLE, PROGRAM, {}, []), TABLE, PROGRAM, Desk("kind a\nsign g 0\nprogram g")]:
            self.assertIs(led() == value, False)
            self.assertIs(value == led(), False)
            self.assertIs(led() != value, True)

    def test_best_pin(self):
        live = Live(LINE, nest((0,), 8, lambda part: (1, part)))
        wanted = []
        while live.best_pin() is not None:
            node, kind, number = live.best_pin()
            live.pin(node, kind)
            self.assertEqual(live.left(), number)
            wanted.append((node, kind, number))
        self.assertEqual([wanted, live.meant()], [[(0, 0, 1)], (0,) * 9])
        live = Live(LEAVES, leafy(3))
        self.assertEqual(live.best_pin(), (2, 0, 4) if readings_many(LEAVES, leafy(3), {2: 0})[0] == 4 else None)
        for node in (2, 3):
            live.pin(node, 1)
        self.assertEqual([live.left(), live.best_pin()], [2, (4, 0, 1)])
        live.pin(4, 1)
        self.assertEqual([live.best_pin(), live.left()], [None, 1])

    def test_best_pin_of_forty_nodes(self):
        """Against all pins gone through."""
        rng = random.Random(35)
        seen = 0
        for table in [MANY, PAIRS, LEAVES, *lively_tables(60, 4000, 4)]:
            for size in (12, 25, 40):
                program = brute.some_program(table, size, rng)
                if program is None or sum(readings_many(table, program, {})) < 2:
                    continue
                live = Live(table, program)
                for _ in range(3):
                    found = []
                    for node in range(size):
                        for kind in range(table[0]):
                            many = sum(readings_many(table, program, {**live.pins_now(), node: kind}))
                            if many and node not in live.pins_now():
                                found.append((many, node, kind))
                    if live.left() > 1:
                        many, node, kind = min(found)
                        self.assertEqual(live.best_pin(), (node, kind, many))
                        self.assertEqual(live.kinds_now(), kinds_left(table, program, live.pins_now()))
                        seen += 1
                    else:
                        self.assertIsNone(live.best_pin())
                    node = rng.randrange(size)
                    live.pin(node, rng.choice(live.kinds_now()[node]))
        self.assertGreater(seen, 60)

    def test_very_many_readings(self):
        live = Live(LEAVES, leafy(20))
        self.assertEqual([live.left(), live.best_pin()[2], live.add_duty(("most", 2 ** 20))], [2 ** 20, 2 ** 19, None])
        self.assertEqual(outcome(lambda: live.put(38, (1, (0,), (0,)))), ("Broken", ("most", 2 ** 20)))
        deep = Live(LINE, nest((0,), 300, lambda part: (1, part)))
        self.assertEqual([deep.left(), deep.best_pin()], [301, (0, 0, 1)])
        deep.put(150, (0,))
        self.assertEqual([deep.left(), deep.twin() == deep, len(deep.kinds_now())], [151, True, 151])

    def test_what_is_returned_is_new(self):
        live = Live(TABLE, PROGRAM)
        live.pin(0, 1)
        live.add_duty(("one",))
        before = repr(told(live))
        for ask in ASKS:
            first, again = getattr(live, ask)(), getattr(live, ask)()
            spoil(first)
            self.assertEqual(repr(getattr(live, ask)()), repr(again))
        self.assertEqual(repr(told(live)), before)
        dropped = live.drop_duty(0)
        live.back()
        self.assertEqual([dropped, repr(told(live))], [("one",), before])
        live.back()
        live.back()
        self.assertEqual(told(live), told(Live(TABLE, PROGRAM)))

    def test_pins_are_ascending(self):
        live = Live(TABLE, PROGRAM)
        for node in (2, 0, 1):
            live.pin(node, 0)
        self.assertEqual(list(live.pins_now()), [0, 1, 2])

    def test_errors(self):
        live = Live(TABLE, PROGRAM)
        for error, call in ((Nothing, live.back), (Nothing, live.again), (Broken, lambda: live.add_duty(("one",))), (Wrong, lambda: live.unpin(0))):
            with self.assertRaises(error) as caught:
                call()
            self.assertIsInstance(caught.exception, PinError)
        with self.assertRaises(Wrong):
            Live(BARE, (0,))
        self.assertEqual(Live(UNREAD, (0,)).left(), 0)


if __name__ == "__main__":
    unittest.main()
