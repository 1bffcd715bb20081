"""Promises 101 to 106: the ways of rows, their spans, and budgets."""

import itertools
import random
import unittest

from rowsbeneath.above import state_of
from rowsbeneath.beneath import Beneath
from rowsbeneath.errors import NoBudget, NoRow
from rowsbeneath.laying import made_of
from rowsbeneath.little import row_beneath
from rowsbeneath.programs import program_of
from rowsbeneath.spans import budget_for, span_of, spans_of, ways_of
from rowsbeneath.tabletext import read_table
from tests.draws import some_made, some_program, some_row, some_state, some_table
from tests.helpers import ODD_THINGS, refuses
from tests.test_room_rows import leaf_number

HEAD = "word 4 ; cells 4 ; depth 1 ; places a b ; marks m n ; gate ; "
TABLE = read_table(HEAD + """
kind k ( p place , q mark , x number ) { next }
kind jumps ( r row ) { if top a { go r } else { if a { next } else { stop } } }
kind both ( p place , q place ) { if p { if q { next } else { stop } } else { if top q { back } else { next } } }
kind tops ( p place ) { if p { if top p { next } else { stop } } else { if top p { back } else { fault odd } } }
kind under ( p place ) { if top p { if p { next } else { stop } } else { if p { back } else { fault odd } } }
kind flags ( q mark ) { if m { if q { next } else { stop } } else { if q { back } else { if top b { next } else { stop } } } }
kind none ( ) { set a = ( a + b ) ; next }""")


def ways(kind, *operands):
    return ways_of(TABLE, (kind, operands))


class Ways(unittest.TestCase):
    def test_one_leaf(self):
        self.assertEqual(ways("none"), [(0, (0, 0), (0, 0))])
        self.assertEqual(ways("k", 1, 0, 15), [(0, (0, 0), (0, 0))])

    def test_words_of_a_leaf(self):
        self.assertEqual(ways("jumps", 3), [(0, (8, 0), (0, 0)), (1, (1, 0), (0, 0)), (2, (0, 0), (0, 0))])
        self.assertEqual(ways("flags", 1), [
            (0, (0, 0), (1, 1)), (1, (0, 0), (1, 0)), (2, (0, 0), (0, 1)), (3, (0, 8), (0, 0)), (4, (0, 0), (0, 0))])

    def test_two_tests_of_one_place_by_unlike_sels(self):
        self.assertEqual(ways("both", 0, 1), [(0, (1, 1), (0, 0)), (1, (1, 0), (0, 0)), (2, (0, 8), (0, 0)), (3, (0, 0), (0, 0))])
        self.assertEqual(ways("both", 1, 0), [(0, (1, 1), (0, 0)), (1, (0, 1), (0, 0)), (2, (8, 0), (0, 0)), (3, (0, 0), (0, 0))])
        self.assertEqual(ways("both", 1, 1), [(0, (0, 1), (0, 0)), (3, (0, 0), (0, 0))])
        self.assertEqual(ways("flags", 0), [(0, (0, 0), (1, 0)), (3, (0, 8), (0, 0)), (4, (0, 0), (0, 0))])

    def test_a_test_and_its_top_on_one_way(self):
        for at in (0, 1):
            word = lambda one: tuple(one if place == at else 0 for place in (0, 1))
            self.assertEqual(ways("tops", at), [(0, word(8), (0, 0)), (1, word(1), (0, 0)), (3, word(0), (0, 0))])
            self.assertEqual(ways("under", at), [(0, word(8), (0, 0)), (2, word(1), (0, 0)), (3, word(0), (0, 0))])

    def test_all_states_of_small_tables(self):
        source = random.Random(102)
        left_out = 0
        for _ in range(120):
            table = some_table(source, deep=1, choices=3, kinds=2)
            if table.width > 5:
                continue
            row = some_row(source, table)
            high = 2 ** (table.width - 1)
            found = set()
            for places in itertools.product([0, 1, high - 1, high, 2 * high - 1], repeat=len(table.places)):
                for marks in itertools.product([0, 1], repeat=len(table.marks)):
                    found.add(leaf_number(table, state_of(table, places=list(places), marks=list(marks)), row))
            told = ways_of(table, row)
            self.assertEqual([number for number, _, _ in told], sorted(found))
            for number, places, marks in told:
                self.assertEqual(leaf_number(table, state_of(table, places=list(places), marks=list(marks)), row), number)
            left_out += len(found) < len(made_of(table, 8, 400).lengths(row[0]))
        self.assertGreater(left_out, 5)

    def test_words_are_those_that_the_tests_ask_for(self):
        source = random.Random(1021)
        for _ in range(200):
            table = some_table(source, deep=1)
            row = some_row(source, table)
            paths = self.paths(table.deed(row[0]), row[1])
            for number, places, marks in ways_of(table, row):
                must = [test for test, held in paths[number] if held]
                high = 2 ** (table.width - 1)
                self.assertEqual(places, tuple(
                    high if ("top", at) in must else 1 if ("place", at) in must else 0 for at in range(len(table.places))))
                self.assertEqual(marks, tuple(int(("mark", at) in must) for at in range(len(table.marks))))

    def paths(self, deed, operands):
        if deed[0] == "leaf":
            return [()]
        sort, (how, number) = deed[1]
        test = (sort, number if how == "is" else operands[number])
        return [((test, held),) + path for part, held in ((deed[2], True), (deed[3], False)) for path in self.paths(part, operands)]

    def test_told_anew(self):
        told = ways("jumps", 3)
        told.clear()
        self.assertEqual(len(ways("jumps", 3)), 3)

    def test_no_row(self):
        made = made_of(TABLE, 3, 60)
        for thing in ODD_THINGS + (("none",), ("none", []), ["none", ()], ("nones", ()), ("none", (0,)), ("jumps", (1000,)), ("jumps", (-1,)),
                                   ("jumps", (True,)), ("k", (2, 0, 0)), ("k", (0, 2, 0)), ("k", (0, 0, 16)), ("tops", ()), ("none", (), ()),
                                   (("none", ()),)):
            refuses(self, lambda: ways_of(TABLE, thing), NoRow, thing)
            refuses(self, lambda: span_of(made, thing), NoRow, thing)
        self.assertEqual(len(ways("jumps", 999)), 3)
        self.assertEqual(span_of(made, ("jumps", (999,)))[:2], (2, 3))


class Spans(unittest.TestCase):
    def test_least_and_most(self):
        made = made_of(TABLE, 3, 60)
        self.assertEqual(made.lengths("jumps"), [2, 3, 3])
        self.assertEqual(span_of(made, ("jumps", (5,))), (2, 3, ((8, 0), (0, 0)), ((1, 0), (0, 0))))
        self.assertEqual(span_of(made, ("none", ())), (4, 4, ((0, 0), (0, 0)), ((0, 0), (0, 0))))
        self.assertEqual(made.lengths("flags"), [3, 3, 3, 4, 4])
        self.assertEqual(span_of(made, ("flags", (1,))), (3, 4, ((0, 0), (1, 1)), ((0, 8), (0, 0))))

    def test_leaves_that_no_state_leads_to_do_not_count(self):
        table = read_table(HEAD + "kind k ( p place ) { if a { if p { set b = a ; next } else { set b = ( a + [ a ] ) ; next } } else { "
                           "if top p { set a = 1 ; set b = 1 ; set m = 1 ; set n = 1 ; next } else { set b = b ; next } } } ")
        made = made_of(table, 4, 60)
        lengths = made.lengths("k")
        self.assertEqual(lengths, [4, 7, 6, 4])
        self.assertEqual(span_of(made, ("k", (0,))), (4, 4, ((1, 0), (0, 0)), ((1, 0), (0, 0))))
        self.assertEqual(span_of(made, ("k", (1,))), (4, 7, ((1, 1), (0, 0)), ((1, 0), (0, 0))))

    def test_rows_take_just_so_many_beats(self):
        source = random.Random(103)
        wide = 0
        for _ in range(150):
            made = some_made(source, deep=3)
            for _ in range(4):
                row = some_row(source, made.table)
                least, most, low, high = span_of(made, row)
                beats = lambda state: row_beneath(made.table, made.rows_laid(), made.many, made.entry(row[0]), state, row, 2000)[1]
                all_ways = ways_of(made.table, row)
                taken = []
                for _, places, marks in all_ways:
                    state = some_state(source, made.table)
                    taken.append(beats(state_of(made.table, 5, list(places), list(marks), state.cells)))
                self.assertEqual((least, most), (min(taken), max(taken)))
                self.assertEqual(low, all_ways[taken.index(least)][1:])
                self.assertEqual(high, all_ways[taken.index(most)][1:])
                for (places, marks), told in ((low, least), (high, most)):
                    self.assertEqual(beats(state_of(made.table, places=list(places), marks=list(marks))), told)
                for _ in range(6):
                    self.assertTrue(least <= beats(some_state(source, made.table)) <= most)
                wide += least < most
        self.assertGreater(wide, 50)


class Budgets(unittest.TestCase):
    MADE = made_of(TABLE, 3, 60)

    def test_spans_of_programs(self):
        program = program_of(TABLE, [("jumps", (1,)), ("none", ()), ("flags", (0,))], 2)
        self.assertEqual(spans_of(self.MADE, program), [(2, 3), (4, 4), (3, 4)])
        self.assertEqual(spans_of(self.MADE, program_of(TABLE, [])), [])
        told = spans_of(self.MADE, program)
        told.clear()
        self.assertEqual(len(spans_of(self.MADE, program)), 3)

    def test_budgets(self):
        program = program_of(TABLE, [("jumps", (1,)), ("none", ()), ("flags", (0,))])
        low = program_of(TABLE, [("jumps", (0,))])
        empty = program_of(TABLE, [])
        for rows in (0, 1, 7, 1999, 2000):
            self.assertEqual(budget_for(self.MADE, program, rows), 4 * rows)
            self.assertEqual(budget_for(self.MADE, low, rows), 3 * rows)
            self.assertEqual(budget_for(self.MADE, empty, rows), rows)
        for thing in ODD_THINGS + (-1, 2001, "7", (7,)):
            for told in (program, empty):
                refuses(self, lambda: budget_for(self.MADE, told, thing), NoBudget, thing)

    def test_a_run_with_just_the_budget(self):
        source = random.Random(105)
        for _ in range(120):
            made = some_made(source, deep=3)
            program = some_program(source, made.table)
            machine = Beneath(made, program)
            for _ in range(3):
                rows = source.randint(0, 8)
                ahead = machine.seen()[7]
                if source.random() < 0.3:
                    machine.ring()
                budget = budget_for(made, program, rows)
                machine.run(min(budget, 2000))
                if machine.seen()[0] == "on" and budget <= 2000:
                    self.assertGreaterEqual(machine.seen()[7] - ahead, rows)
                while machine.within():
                    machine.beat()


if __name__ == "__main__":
    unittest.main()
