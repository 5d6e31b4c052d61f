"""The section "The interface": names, arguments and modules, as far as they have landed."""

import ast
import importlib
import inspect
import pathlib
import unittest

PACKAGE = pathlib.Path(__file__).resolve().parent.parent / "pinsenough"

INTERFACE = {
    "errors": ["Broken(duty)", "Doubling(found)", "NoCommand()", "NoIndex(index)", "NoReading(node)", "NoText(at)",
               "NotEnough(other)", "Nothing()", "TooMany(most)", "Unbounded(found)", "Wrong(place)"],
    "forms": ["is_integer(thing)", "is_table(thing)", "is_program(table, thing)", "is_context(table, thing)",
              "is_lot(table, thing)", "is_reading(table, program, thing)", "are_places(program, thing)",
              "are_pins(table, program, thing)", "is_state(table, thing)"],
    "programs": ["size_of(program)", "hole_of(context)", "program_at(program, node)", "put_at(program, node, other)",
                 "filled(context, other)", "context_of(program, node)", "renumbered_program(program, signs)",
                 "parts_at(program, node)", "reading_at(program, reading, node)", "renumbered_reading(reading, kinds)",
                 "renumbered(table, kinds, signs)"],
    "texts": ["show_table(names, table)", "show_program(names, program, pins)"],
    "reader": ["read_table(text)", "read_program(names, table, text)"],
    "made": ["made_kinds(table)", "met_kinds(table, wanted)", "least_programs(table)", "trimmed(table, wanted)"],
    "readings": ["readings_many(table, program, pins)", "reading_by(table, program, pins, index)",
                 "readings_of(table, program, pins)", "kinds_left(table, program, pins)",
                 "index_of(table, program, pins, reading)", "unread_node(table, program)"],
    "couples": ["had_couples(table)", "had_triples(table)", "apart_couples(table)", "leads_of(table)",
                "couple_shown(table, couple)", "apart_shown(table, couple)"],
    "rounds": ["twofold_round(table)", "shifting_round(table)", "ranks_of(table)", "stays_of(table)",
               "is_twofold(table, thing)", "is_shifting(table, thing)", "is_ranks(table, thing)", "is_stays(table, thing)"],
    "pumping": ["piled(context, many)", "laid_in(context, reading, inner)", "pumped(found, many, program, reading)"],
    "growth": ["growth(table)", "growth_paper(table)", "is_growth_paper(table, thing)"],
    "manyreads": ["cut_tallies(table, most)", "least_with(table, many)", "greatest_readings(table)", "by_sizes(table, size)"],
    "enough": ["agree(one, other, places)", "are_enough(table, program, reading, places)",
               "other_reading(table, program, reading, places)"],
    "needs": ["costs(table, program, reading)", "need(table, program, reading)", "need_told(table, program, reading)",
              "gains(table, program, reading)", "greatest_of(table, program)"],
    "leastpins": ["pins_for(table, program, reading, lot)", "least_pins(table, program, reading)",
                  "thinned(table, program, reading, places)", "all_least_pins(table, program, reading)"],
    "states": ["state_of(table, program, reading)", "states_of(table)", "steps_of(table)",
               "led_on(table, entry, states)", "led_state(table, context, reading, state)", "examples(table)"],
    "greatest": ["greatest_need(table)", "neediest(table)", "heights(table)", "is_height_paper(table, thing)"],
    "rates": ["rate(table)", "rate_paper(table)", "rate_round(table)", "is_rate_paper(table, fraction, thing)",
              "is_rate_round(table, thing)"],
    "places": ["are_for_all(table, program, places)", "least_places(table, program)", "unparted(table, program, places)"],
    "asks": ["height_of(tree)", "fewest_asks(table, program)", "finds_all(table, program, thing)", "best_tree(table, program)",
             "found_by(tree, reading)"],
    "sure": ["is_sure(table, lot)", "is_sure_paper(table, lot, thing)", "clashing(table, lot)", "sure_paper(table, lot)"],
    "sureleast": ["least_sure_lots(table)", "written_nodes(program, lot)", "least_by_lots(table, program)"],
    "beside": ["with_entries(table, more)", "harmed(table, more)", "harmless_paper(table, more)",
               "is_harmless_paper(table, more, thing)", "harmless_lots(table, more)"],
    "alike": ["numbers_of(one, other, program)", "basis_of(one, other)", "is_basis(one, other, thing)",
              "unlike_many(one, some, other, others)"],
    "live": ["Live(table, program)"],
    "desk": ["Desk(text)"],
}
METHODS = {
    "Live": ["put(node, program)", "pin(node, kind)", "unpin(node)", "add_duty(duty)", "back()", "again()", "drop_duty(index)", "program_now()",
             "pins_now()", "duties()", "kinds_now()", "left()", "meant()", "best_pin()", "twin()", "__eq__(other)"],
    "Desk": ["execute(line)", "live()"],
}


class InterfaceTest(unittest.TestCase):
    def test_names_and_arguments(self):
        for name, calls in INTERFACE.items():
            module = importlib.import_module(f"pinsenough.{name}")
            for call in calls:
                thing = getattr(module, call.partition("(")[0])
                self.assertEqual(f"{thing.__name__}{inspect.signature(thing)}", call)
                self.assertEqual(thing.__module__, f"pinsenough.{name}")

    def test_defined_in_the_file(self):
        for name, calls in INTERFACE.items():
            tree = ast.parse((PACKAGE / f"{name}.py").read_text())
            defined = [row.name for row in tree.body if isinstance(row, (ast.FunctionDef, ast.ClassDef))]
            for call in calls:
                self.assertIn(call.partition("(")[0], defined)

    def test_methods(self):
        for name, methods in METHODS.items():
            path = PACKAGE / f"{name.lower()}.py"
            tops = [row for row in ast.parse(path.read_text()).body if isinstance(row, ast.ClassDef) and row.name == name]
            told = {row.name: row for row in tops[0].body if isinstance(row, ast.FunctionDef)}
            for method in methods:
                word, _, rest = method.partition("(")
                given = [arg.arg for arg in told[word].args.args]
                self.assertEqual(given, ["self", *[arg for arg in rest[:-1].split(", ") if arg]])
                self.assertEqual(told[word].args.defaults, [])

    def test_all_that_the_document_lists(self):
        """Each module file is one of the interface, and each of the interface is there."""
        files = {path.stem for path in PACKAGE.glob("*.py")} - {"__init__"}
        self.assertEqual(files, set(INTERFACE))
        self.assertEqual(len(INTERFACE), 26)

    def test_modules_use_those_above(self):
        above = []
        for name in INTERFACE:
            tree = ast.parse((PACKAGE / f"{name}.py").read_text())
            for row in tree.body:
                if isinstance(row, ast.ImportFrom) and row.module.startswith("pinsenough."):
                    self.assertIn(row.module.partition(".")[2], above)
            above.append(name)

    def test_init_is_empty(self):
        self.assertEqual((PACKAGE / "__init__.py").read_bytes(), b"")


if __name__ == "__main__":
    unittest.main()
