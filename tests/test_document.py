"""The lines of the document's examples that the modules answer."""

import unittest

from pinsenough.alike import basis_of, is_basis, numbers_of, unlike_many
from pinsenough.asks import best_tree, fewest_asks, finds_all, found_by, height_of
from pinsenough.beside import harmed, harmless_lots, harmless_paper, is_harmless_paper, with_entries
from pinsenough.couples import apart_couples, apart_shown, had_couples, leads_of
from pinsenough.desk import Desk
from pinsenough.enough import agree, are_enough, other_reading
from pinsenough.forms import is_reading, is_state
from pinsenough.greatest import greatest_need, heights, is_height_paper
from pinsenough.growth import growth, is_growth_paper
from pinsenough.leastpins import all_least_pins, least_pins, pins_for, thinned
from pinsenough.live import Live
from pinsenough.made import least_programs, made_kinds, met_kinds, trimmed
from pinsenough.manyreads import by_sizes, cut_tallies, greatest_readings, least_with
from pinsenough.needs import costs, gains, greatest_of, need, need_told
from pinsenough.places import are_for_all, least_places, unparted
from pinsenough.programs import context_of, filled, hole_of, parts_at, program_at, put_at, reading_at, size_of
from pinsenough.pumping import piled, pumped
from pinsenough.rates import is_rate_paper, is_rate_round, rate
from pinsenough.reader import read_program, read_table
from pinsenough.readings import index_of, kinds_left, reading_by, readings_many, readings_of, unread_node
from pinsenough.rounds import is_ranks, is_shifting, is_twofold, stays_of, twofold_round
from pinsenough.states import examples, led_on, led_state, state_of, states_of
from pinsenough.sure import clashing, is_sure, is_sure_paper, sure_paper
from pinsenough.sureleast import least_by_lots, least_sure_lots, written_nodes
from pinsenough.texts import show_program, show_table


class ExamplesTest(unittest.TestCase):
    def test_behind_15(self):
        names, table = read_table("kind a\nkind b\nsign g 0\nsign f 2 # two\nentry g is a\n\nentry f a b is b\nentry g is b")
        self.assertEqual(table, (2, (0, 2), ((0, (), 0), (0, (), 1), (1, (0, 1), 1))))
        self.assertEqual([show_table(names, table).split("\n")[4], is_reading(table, (1, (0,), (0,)), (1, 0, 1)),
                          is_state(table, (0, ((1,),)))], ["entry g is a", True, True])
        program = (1, (0,), (1, (0,), (0,)))
        self.assertEqual([size_of(program), program_at(program, 2), parts_at(program, 2), reading_at(program, (1, 0, 1, 0, 1), 2)],
                         [5, (1, (0,), (0,)), (3, 4), (1, 0, 1)])
        context = context_of(program, 1)
        self.assertEqual([context, hole_of(context), size_of(context), filled(context, (0,)) == program, put_at(program, 2, (0,))],
                         [(1, None, (1, (0,), (0,))), 1, 4, True, (1, (0,), (0,))])
        text = show_program(names, program, {0: 1, 3: 0})
        self.assertEqual([text, read_program(names, table, text) == (program, {0: 1, 3: 0})],
                         ["f:b ( g , f ( g:a , g ) )", True])

    def test_behind_17(self):
        entries = ((0, (), 0), (1, (0,), 0), (1, (0,), 1), (1, (1,), 1), (2, (1, 2), 2))
        table = (3, (0, 1, 2), entries)
        self.assertEqual([made_kinds(table), least_programs(table), met_kinds(table, (1,)), trimmed(table, (0, 2))[2]],
                         [[0, 1], {0: (0,), 1: (1, (0,))}, [0, 1], ((0, (), 0), (1, (0,), 0))])
        program = (1, (1, (0,)))
        self.assertEqual([readings_of(table, program, {}), readings_many(table, program, {}), readings_many(table, program, {1: 0})],
                         [[(0, 0, 0), (1, 0, 0), (1, 1, 0)], (1, 2, 0), (1, 1, 0)])
        self.assertEqual([reading_by(table, program, {0: 1}, 1), index_of(table, program, {}, (1, 1, 0)),
                          kinds_left(table, program, {0: 1})], [(1, 1, 0), 2, [(1,), (0, 1), (0,)]])
        self.assertEqual([unread_node(table, program), unread_node(table, (2, program, (0,))),
                          unread_node(table, (1, (2, (0,), (0,))))], [None, 0, 1])

    def test_behind_20(self):
        table = (2, (0, 1), ((0, (), 0), (1, (0,), 0), (1, (0,), 1), (1, (1,), 1)))
        self.assertEqual([had_couples(table), apart_couples(table), apart_shown(table, (1, 1))[0], apart_shown(table, (0, 0))],
                         [[(0, 0), (0, 1), (1, 0), (1, 1)], [(0, 1), (1, 0), (1, 1)], (1, (1, (0,))), None])
        self.assertEqual(leads_of(table)[3:], [((0, 0), (1, 1), False), ((0, 1), (0, 1), False), ((0, 1), (1, 1), False),
                                               ((1, 0), (1, 0), False), ((1, 0), (1, 1), False), ((1, 1), (1, 1), False)])
        self.assertEqual([twofold_round(table), is_ranks(table, {(0, 0): 0, (0, 1): 1, (1, 0): 1, (1, 1): 1}), is_ranks(table, {})],
                         [None, True, False])
        found = ((1, None), (1, 1), (0, 0), (1, 0))
        self.assertEqual([is_shifting(table, found), stays_of(table), piled(found[0], 2)], [True, None, (1, (1, None))])
        self.assertEqual(pumped(found, 2, (0,), (0,)), ((1, (1, (0,))), [(0, 0, 0), (1, 0, 0), (1, 1, 0)]))
        both = (2, (0, 1), ((0, (), 0), (1, (0,), 0), (1, (0,), 1), (1, (1,), 0)))
        self.assertEqual([is_twofold(both, ((1, (1, None)), (0, 0, 0), (0, 1, 0))),
                          is_twofold(table, ((1, (1, None)), (0, 0, 0), (0, 1, 0)))], [True, False])

    def test_behind_22(self):
        table = (2, (0, 1), ((0, (), 0), (1, (0,), 0), (1, (0,), 1), (1, (1,), 1)))
        ranks = {(0, 0): 0, (0, 1): 1, (1, 0): 1, (1, 1): 1}
        self.assertEqual([growth(table), is_growth_paper(table, ("powers", ((1, None), (1, 1), (0, 0), (1, 0)), ranks))],
                         ["powers", True])
        self.assertEqual([cut_tallies(table, 1), least_with(table, 3), by_sizes(table, 3)],
                         [{(1, 0): (0,), (1, 1): (1, (0,))}, (1, (1, (0,))), [(1, 1, 1), (2, 1, 2), (3, 1, 3)]])
        two = (2, (0, 0, 2), ((0, (), 0), (0, (), 1), (1, (), 0), (2, (0, 1), 0)))
        self.assertEqual([growth(two), cut_tallies(two, 6)], ["bounded", {(1, 0): (1,), (1, 1): (0,)}])
        self.assertEqual([greatest_readings(two), least_with(two, 3), by_sizes(two, 3)],
                         [(2, (0,)), None, [(1, 2, 3), (2, 0, 0), (3, 2, 2)]])

    def test_behind_25(self):
        table = (2, (0, 1), ((0, (), 0), (1, (0,), 0), (1, (0,), 1), (1, (1,), 1)))
        program = (1, (1, (0,)))
        self.assertEqual([other_reading(table, program, (1, 0, 0), ()), other_reading(table, program, (1, 0, 0), (0,)),
                          are_enough(table, program, (1, 0, 0), (0, 1))], [(0, 0, 0), (1, 1, 0), True])
        self.assertEqual([need(table, program, (0, 0, 0)), need(table, program, (1, 0, 0)), costs(table, program, (1, 0, 0)),
                          need_told(table, program, (1, 0, 0))], [1, 2, {(): 2, (0,): 1}, 1])
        self.assertEqual([gains(table, program, (1, 0, 0)), gains(table, program, (1, 1, 0)), greatest_of(table, program)],
                         [[1, 1, 0], [0, 1, 0], (2, (1, 0, 0))])
        self.assertEqual([least_pins(table, program, (1, 0, 0)), pins_for(table, program, (1, 0, 0), (0,)),
                          all_least_pins(table, program, (0, 0, 0))], [(0, 1), (1,), [(0,)]])
        self.assertEqual([thinned(table, program, (1, 1, 0), (0, 1, 2)), agree((1, 0, 0), (1, 1, 0), (0, 2))], [(1,), True])

    def test_behind_28(self):
        table = (2, (0, 1), ((0, (), 0), (1, (0,), 0), (1, (0,), 1), (1, (1,), 1)))
        self.assertEqual(states_of(table), [(0, ()), (0, ((1,),)), (1, ()), (1, ((0,),))])
        self.assertEqual([state_of(table, (1, (1, (0,))), (1, 1, 0)), led_on(table, (1, (1,), 1), ((1, ((0,),)),)),
                          examples(table)[(1, ())]], [(1, ()), ((1, ()), 0), ((1, (1, (0,))), (1, 1, 0))])
        self.assertEqual([greatest_need(table), heights(table)],
                         [2, {(0, ()): 0, (0, ((1,),)): 1, (1, ()): 2, (1, ((0,),)): 2}])
        self.assertEqual([rate(table), is_height_paper(table, {(0, ()): 0, (0, ((1,),)): 1, (1, ()): 1, (1, ((0,),)): 2})],
                         [(0, 1), False])
        leaves = (2, (0, 2), ((0, (), 0), (0, (), 1), (1, (0, 0), 0), (1, (0, 1), 0), (1, (1, 0), 0), (1, (1, 1), 0)))
        self.assertEqual([states_of(leaves), rate(leaves), led_state(leaves, (1, None, (0,)), (0, 0, 1), (0, ()))],
                         [[(0, ()), (0, ((1,),)), (1, ((0,),))], (1, 2), ((0, ()), 1)])
        self.assertEqual([is_rate_round(leaves, ((1, None, (0,)), (0, 0, 1), (0, ()))),
                          is_rate_paper(leaves, (1, 2), {(0, ()): (-1, 2), (0, ((1,),)): (1, 2), (1, ((0,),)): (1, 2)})], [True, False])

    def test_behind_30(self):
        table = (2, (0, 1), ((0, (), 0), (1, (0,), 0), (1, (0,), 1), (1, (1,), 1)))
        program = (1, (1, (1, (0,))))
        self.assertEqual([are_for_all(table, program, (0,)), unparted(table, program, (0,)), least_places(table, program)],
                         [False, ((1, 0, 0, 0), (1, 1, 0, 0)), (0, 1, 2)])
        tree = ("ask", 1, {0: ("ask", 0, {0: ("end", (0, 0, 0, 0)), 1: ("end", (1, 0, 0, 0))}),
                           1: ("ask", 2, {0: ("end", (1, 1, 0, 0)), 1: ("end", (1, 1, 1, 0))})})
        self.assertEqual([finds_all(table, program, tree), height_of(tree), found_by(tree, (1, 1, 0, 0)),
                          finds_all(table, program, tree[2][0])], [True, 2, (1, 2), False])
        self.assertEqual([fewest_asks(table, program), height_of(best_tree(table, program)), fewest_asks(table, (0,)),
                          best_tree(table, (0,))], [2, 2, 0, ("end", (0,))])

    def test_behind_32(self):
        table = (2, (0, 1, 1), ((0, (), 0), (0, (), 1), (1, (0,), 0), (1, (1,), 1), (2, (0,), 0), (2, (1,), 0)))
        self.assertEqual([is_sure(table, ()), clashing(table, ()), sure_paper(table, ())], [False, ((2, (0,)), (0, 0), (0, 1)), None])
        self.assertEqual([least_sure_lots(table), sure_paper(table, (0,)), sure_paper(table, (1, 2))], [[(0,)], (), None])
        two = (2, table[1][:2], table[2][:4])
        self.assertEqual([is_sure(two, ()), sure_paper(two, ()), is_sure_paper(two, (), ()), least_sure_lots(two)],
                         [True, ((0, 1),), False, [()]])
        program = (2, (1, (1, (0,))))
        self.assertEqual([written_nodes(program, (0,)), least_by_lots(table, program)], [(0, 3), (2, (0,))])

    def test_behind_34(self):
        table = (2, (0, 1), ((0, (), 0), (1, (0,), 1)))
        first, second, third = (0, (), 1), (1, (0,), 0), (1, (1,), 0)
        self.assertEqual([harmed(table, (second,)), harmless_paper(table, (third,))],
                         [((1, (0,)), (1, 0), (0, 0)),
                          (((0, 0), (0, 1)), ((0, 0), (1, 1)), ((0, 1), (0, 0)), ((1, 1), (0, 0)))])
        self.assertEqual([harmless_lots(table, (first, second, third)), with_entries(table, (third,))[2][-1]],
                         [[((1, (1,), 0),)], (1, (1,), 0)])
        self.assertFalse(is_harmless_paper(table, (third,), harmless_paper(table, (third,))[1:]))
        more = with_entries(table, (second, third))
        self.assertEqual([numbers_of(table, more, (1, (0,))), numbers_of(table, more, (1, (1, (0,))))], [(0, 1, 1, 1), (0, 0, 2, 1)])
        self.assertEqual([len(basis_of(table, more)), is_basis(table, more, ((0,), (0,))), unlike_many(table, (0,), table, (0,))],
                         [4, False, None])
        self.assertFalse(unlike_many(table, (0, 1), more, (0, 1)) is None)

    def test_behind_36(self):
        table = (2, (0, 1), ((0, (), 0), (0, (), 1), (1, (0,), 0), (1, (1,), 0), (1, (1,), 1)))
        live = Live(table, (1, (1, (0,))))
        self.assertEqual([live.left(), live.best_pin(), live.pin(0, 1), live.left(), live.meant(), live.add_duty(("one",))],
                         [4, (0, 1, 1), None, 1, (1, 1, 1), None])
        self.assertEqual([live.put(1, (0,)), live.pins_now(), live.meant(), live.back(), live.program_now(), live.twin() == live],
                         [None, {0: 1}, (1, 1), None, (1, (1, (0,))), True])
        desk = Desk("kind a\nkind b\nsign g 0\nsign f 1\nentry g is a\nentry g is b\nentry f a is a\nentry f b is b\nprogram f ( g:a )")
        self.assertEqual([desk.execute(line) for line in ["left", "keep one", "unpin 1", "pin 0 a", "unpin 1", "program", "kinds 1", "meant"]],
                         [["1"], ["done"], ["refused"], ["done"], ["done"], ["f:a ( g )"], ["a"], ["a a"]])
        self.assertEqual([desk.execute("duties"), desk.live().duties()], [["keep one"], [("one",)]])


if __name__ == "__main__":
    unittest.main()
