"""The interface: all names are there, with their arguments in their order, and those with a default may be named."""

import importlib
import inspect
import unittest

FUNCTIONS = {
    "sums": ["is_whole(thing)", "is_within(thing, low, high)", "is_word(thing, width)", "is_name(thing)", "own_words()", "ops_told()", "truth_of(word)",
             "top_of(word, width)", "reckoned(op, one, other, width)"],
    "tabletext": ["tokens_of(text)", "read_table(text)", "show_table(table)"],
    "programs": ["same_shape(one, other)", "is_row(table, thing, rows)", "program_of(table, rows, bell=None)", "show_program(table, program)",
                 "read_program(table, text)"],
    "above": ["state_of(table, at=0, places=None, marks=None, cells=None, pile=None)", "row_done(table, state, row)", "need_single(table, state, row)",
              "end_given(table, state, end, operands)"],
    "steps": ["step_of(told)"],
    "little": ["little_of(told)", "fits(table, kind, many, little)", "row_beneath(table, room, many, entry, state, row, most, inner=None)"],
    "littletext": ["read_little(text)", "show_room(room)", "read_room(text)"],
    "packing": ["meets(one, other)", "packed(steps)", "chain_of(steps)", "is_packing(steps, beats)", "is_chain(steps, places)"],
    "leaves": ["parts_of(sets)", "roots_of(sets)", "held_by(sets, order)", "needs_of(e)", "needs_of_sets(sets)", "best_order(sets)", "steps_of(sets, many)"],
    "laying": ["made_of(table, many, size)"],
    "checker": ["lets_by(table, kind, room, many, entry, paper)"],
    "papers": ["paper_of(made, kind)"],
    "spans": ["ways_of(table, row)", "span_of(made, row)", "spans_of(made, program)", "budget_for(made, program, rows)"],
    "changes": ["changed(made, table, kind)", "holes(made)"],
    "forms": ["is_plain(table, kind)", "chosen_of(table, kind)", "decided(known, test)", "form_of(table, chosen, known, e)",
              "effect_of(table, chosen, known, leaf)"],
    "alike": ["alike(one, other)", "alike_holds(one, other, paper)"],
}
# For each class the class that it stands under, what it is made of (None where only functions make it), and its methods.
CLASSES = {
    "tables.Table": ("object", None, ["fields_of(self, kind)", "deed(self, kind)", "told(self)"]),
    "programs.Program": ("object", None, []),
    "above.State": ("object", "(self, at, places, marks, cells, pile)", ["told(self)", "copied(self)"]),
    "above.Runner": ("object", "(self, table, program, cells=None)", [
        "ring(self)", "seen(self)", "between(self)", "row_left(self, end, operands)", "need_shape(self, table)"]),
    "above.Above": ("Runner", "(self, table, program, cells=None)", ["one_row(self)", "run(self, rows, bells=None)", "change(self, table)"]),
    "steps.Get": ("Step", "(self, to, sel)", ["told(self)", "reads(self)", "writes(self)", "words(self)"]),
    "steps.Ask": ("Step", "(self, to, sel)", ["told(self)", "reads(self)", "writes(self)", "words(self)"]),
    "steps.Cell": ("Step", "(self, to, source)", ["told(self)", "reads(self)", "writes(self)", "words(self)"]),
    "steps.Two": ("Step", "(self, to, op, one, other)", ["told(self)", "reads(self)", "writes(self)", "words(self)"]),
    "steps.Put": ("Step", "(self, sel, source)", ["told(self)", "reads(self)", "writes(self)", "words(self)"]),
    "steps.Tell": ("Step", "(self, sel, source)", ["told(self)", "reads(self)", "writes(self)", "words(self)"]),
    "steps.Store": ("Step", "(self, at, source)", ["told(self)", "reads(self)", "writes(self)", "words(self)"]),
    "little.Little": ("object", "(self, steps, on)", ["told(self)", "words(self)"]),
    "laying.Made": ("object", None, ["rows_laid(self)", "room_told(self)", "used(self)", "entry(self, kind)", "addresses(self, kind)", "lengths(self, kind)"]),
    "beneath.Beneath": ("Runner", "(self, made, program, cells=None)", [
        "beat(self)", "run(self, beats, rings=None)", "within(self)", "beats_done(self)", "inner_places(self)", "change(self, made)", "ring(self)", "seen(self)"]),
    "desk.Desk": ("object", "(self)", ["say(self, line)"]),
}


def found(module, name):
    return getattr(importlib.import_module("rowsbeneath." + module), name)


class Interface(unittest.TestCase):
    def test_functions(self):
        for module, told in FUNCTIONS.items():
            for words in told:
                name = words.split("(")[0]
                self.assertEqual(name + str(inspect.signature(found(module, name))), words)

    def test_classes(self):
        for path, (base, made_of, methods) in CLASSES.items():
            thing = found(*path.split("."))
            self.assertEqual([one.__name__ for one in thing.__bases__], [base])
            if made_of is not None:
                self.assertEqual(str(inspect.signature(thing.__init__)), made_of)
            for words in methods:
                name = words.split("(")[0]
                self.assertEqual(name + str(inspect.signature(getattr(thing, name))), words)


if __name__ == "__main__":
    unittest.main()
