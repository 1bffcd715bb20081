"""Promises 8 and 9: the whole, through all parts together."""

import random
import unittest

from rowsbeneath.above import Above, row_done, state_of
from rowsbeneath.alike import alike, alike_holds
from rowsbeneath.beneath import Beneath
from rowsbeneath.changes import changed
from rowsbeneath.checker import lets_by
from rowsbeneath.errors import Crowded, NoRoom, RowsError
from rowsbeneath.laying import made_of
from rowsbeneath.leaves import best_order, held_by, needs_of_sets, steps_of
from rowsbeneath.little import row_beneath
from rowsbeneath.packing import chain_of, is_chain, is_packing, meets, packed
from rowsbeneath.papers import paper_of
from rowsbeneath.programs import read_program, show_program
from rowsbeneath.spans import budget_for, span_of
from rowsbeneath.tabletext import read_table, show_table
from tests.draws import LongDrawing, PlainDrawing, TableDrawing, some_program, some_row, some_state, some_table, some_word, with_a_kind_drawn_anew
from tests.helpers import refusal_of
from tests.oracle_laying import leaves
from tests.test_beneath_above import above_behind


def drawn_made(source, drawing_class=TableDrawing, **bounds):
    """(a drawing, its text, a made room of it)."""
    while True:
        drawing = drawing_class(source, **bounds)
        text = drawing.text()
        try:
            return drawing, text, made_of(read_table(text), source.randint(2, 8), 400)
        except RowsError:
            continue


class TheWhole(unittest.TestCase):
    def test_runs_of_tables_and_programs_read_anew(self):
        source = random.Random(81)
        for _ in range(100):
            _, _, made = drawn_made(source, source.choice([TableDrawing, LongDrawing]), deep=3, kinds=5)
            made = made_of(read_table(show_table(made.table)), made.many, made.used())
            program = some_program(source, made.table, 40)
            program = read_program(made.table, show_program(made.table, program))
            cells = [some_word(source, made.table.width) for _ in range(source.randint(0, made.table.cells))]
            machine = Beneath(made, program, cells)
            for _ in range(20):
                machine.run(min(2000, budget_for(made, program, source.randint(0, 3))), [machine.beats_done() + source.randrange(12)])
                if not machine.within():
                    self.assertEqual(machine.seen(), above_behind(made.table, program, cells, machine.seen()))

    def test_rows_papers_and_spans(self):
        source = random.Random(82)
        for _ in range(80):
            _, _, made = drawn_made(source)
            laid = [row for row in made.room_told() if row is not None]
            self.assertEqual(len(laid), len(set(laid)))
            for row in made.rows_laid():
                steps = row.steps if row is not None else ()
                self.assertFalse(any(meets(one, other) for at, one in enumerate(steps) for other in steps[:at]))
            for kind in made.table.kinds:
                paper = paper_of(made, kind)
                self.assertTrue(lets_by(made.table, kind, made.rows_laid(), made.many, made.entry(kind), paper))
                row = some_row(source, made.table, kind=kind)
                least, most, low, high = span_of(made, row)
                states = [some_state(source, made.table) for _ in range(4)]
                states += [state_of(made.table, 7, list(places), list(marks)) for places, marks in (low, high)]
                told = [row_beneath(made.table, made.rows_laid(), made.many, made.entry(kind), state, row, 2000) for state in states]
                for state, (behind, beats) in zip(states, told):
                    self.assertEqual(behind.told(), row_done(made.table, state, row).told())
                    self.assertTrue(least <= beats <= most <= len(paper))
                self.assertEqual((told[-2][1], told[-1][1]), (least, most))

    def test_leaves(self):
        source = random.Random(83)
        for _ in range(80):
            _, _, made = drawn_made(source)
            for kind in made.table.kinds:
                lengths = iter(made.lengths(kind))
                for leaf, ahead in leaves(made.table.deed(kind)):
                    steps = steps_of(leaf[1], made.many)
                    beats, chain = packed(steps), chain_of(steps)
                    self.assertTrue(is_packing(steps, beats) and is_chain(steps, chain))
                    self.assertEqual(len(chain), len(beats))
                    self.assertEqual(next(lengths), ahead + max(1, len(beats)))
                    self.assertEqual(max(held_by(leaf[1], best_order(leaf[1])), default=0), needs_of_sets(leaf[1]))

    def test_what_cannot_be_made(self):
        source = random.Random(84)
        crowded = lacking = 0
        for _ in range(120):
            table = some_table(source)
            refusal = refusal_of(lambda: made_of(table, 2, 400))
            if refusal is not None:
                crowded += 1
                self.assertIs(type(refusal), Crowded)
                needs = [needs_of_sets(leaf[1]) for leaf, _ in leaves(table.deed(refusal.kind))]
                self.assertEqual(refusal.needed, [need for need in needs if need > 2][0])
            made = made_of(table, 8, 400)
            if made.used() > 1:
                refusal = refusal_of(lambda: made_of(table, 8, made.used() - 1))
                lacking += 1
                self.assertIs(type(refusal), NoRoom)
                self.assertGreaterEqual(refusal.lacking, 1)
        self.assertGreater(min(crowded, lacking), 20)


class Changes(unittest.TestCase):
    def test_runs_with_changes_between_two_rows(self):
        source = random.Random(91)
        done = 0
        for _ in range(60):
            drawing, text, made = drawn_made(source, LongDrawing, deep=3, choices=2, kinds=4)
            program = some_program(source, made.table, 40)
            first = made.table
            machine, changes = Beneath(made, program), []
            for _ in range(25):
                machine.run(source.randint(1, 6), [machine.beats_done() + source.randrange(6)] if source.random() < 0.2 else None)
                if machine.within():
                    continue
                self.assertEqual(machine.seen(), above_behind(first, program, None, machine.seen(), changes))
                if source.random() < 0.5:
                    text_new, kind = with_a_kind_drawn_anew(source, drawing, text)
                    papers = {other: paper_of(made, other) for other in made.table.kinds if other != kind}
                    try:
                        new = changed(made, read_table(text_new), kind)
                    except RowsError:
                        continue
                    self.assertEqual(new.used(), made_of(new.table, new.many, 400).used())
                    for other, paper in papers.items():
                        self.assertTrue(lets_by(new.table, other, new.rows_laid(), new.many, new.entry(other), paper))
                        self.assertEqual(paper_of(new, other), paper)
                    machine.change(new)
                    made, text = new, text_new
                    changes.append((machine.seen()[7], new.table))
                    done += machine.seen()[0] == "on"
        self.assertGreater(done, 40)

    def test_a_change_ahead_of_rows_that_goes_on_as_a_machine_above(self):
        head = "word 8 ; cells 4 ; depth 1 ; places a b ; marks ; gate ; kind step ( n number ) { set a = ( a OP n ) ; next } kind loop ( r row ) { go r }"
        plus, minus = read_table(head.replace("OP", "+")), read_table(head.replace("OP", "-"))
        made = made_of(plus, 2, 10)
        program = read_program(plus, "step 3\nloop 0")
        beneath, above = Beneath(made, program), Above(plus, program)
        for turn in range(6):
            while beneath.seen()[7] < above.seen()[7] + 5 or beneath.within():
                beneath.beat()
            above.run(beneath.seen()[7] - above.seen()[7])
            self.assertEqual(beneath.seen(), above.seen())
            table = minus if turn % 2 == 0 else plus
            made = changed(made, table, "step")
            beneath.change(made)
            above.change(table)


class TwoTables(unittest.TestCase):
    def test_alike_or_parted_as_their_rooms_do(self):
        source = random.Random(92)
        told = {"alike": 0, "parted": 0}
        for _ in range(150):
            drawing, text, made = drawn_made(source, PlainDrawing, kinds=2, choices=2)
            other_text, kind = with_a_kind_drawn_anew(source, drawing, text, 1)
            if source.random() < 0.4:
                other_text = text.replace(" + ", " - ", 1)
            try:
                other = made_of(read_table(other_text), made.many, 400)
            except RowsError:
                continue
            answer = alike(made.table, other.table)
            told[answer[0]] += 1
            rows = [(answer[2], answer[1])] if answer[0] == "parted" else [
                (some_state(source, made.table), some_row(source, made.table)) for _ in range(6)]
            for state, row in rows:
                behind = [row_beneath(room.table, room.rows_laid(), room.many, room.entry(row[0]), state, row, 2000)[0].told() for room in (made, other)]
                self.assertEqual(behind[0] == behind[1], answer[0] == "alike")
            if answer[0] == "alike":
                self.assertTrue(alike_holds(made.table, other.table, answer[1]))
        self.assertGreater(min(told.values()), 15, told)


if __name__ == "__main__":
    unittest.main()
