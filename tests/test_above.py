"""Promises 5, 39 and 30: the machine above, its bells, and what is seen."""

import random
import unittest

from rowsbeneath.above import Above, Runner, State
from rowsbeneath.errors import NoBudget, NoState, Unlike
from rowsbeneath.programs import program_of, read_program
from rowsbeneath.tabletext import read_table
from tests.draws import some_program, some_table, some_word
from tests.helpers import ODD_THINGS, refuses
from tests.oracle_above import seen_behind

TEXT = """word 8 ; cells 4 ; depth 2 ; places a b ; marks g m ; gate g ;
kind add ( p place , x number ) { set p = ( p + x ) ; next }
kind flag ( q mark , x number ) { set q = x ; next }
kind jump ( r row ) { go r }
kind sub ( r row ) { call r }
kind ret ( ) { back }
kind halt ( ) { stop }
kind bad ( ) { set a = 9 ; fault odd }
kind copy ( x number ) { set [ x ] = a ; next }"""
TABLE = read_table(TEXT)
UNGATED = read_table(TEXT.replace("gate g", "gate"))
FLAT = read_table(TEXT.replace("depth 2", "depth 0"))
NOUGHTS = ((0, 0), (0, 0), (0, 0, 0, 0), ())


def above(lines, table=TABLE, cells=None):
    return Above(table, read_program(table, "\n".join(lines)), cells)


def short(machine):
    """Of what is seen: word, fault, at, pile, rows and bells."""
    told = machine.seen()
    return told[:3] + told[6:]


class Begun(unittest.TestCase):
    def test_a_new_machine(self):
        program = program_of(TABLE, [("halt", ())], 0)
        for machine in (Above(TABLE, program), Runner(TABLE, program), Above(TABLE, program, None), Above(TABLE, program, [])):
            self.assertIsInstance(machine, Runner)
            self.assertIs(machine.table, TABLE)
            self.assertIs(machine.program, program)
            self.assertIsInstance(machine.state, State)
            self.assertEqual(machine.seen(), ("on", None, 0) + NOUGHTS + (0, ()))
            self.assertEqual(machine.state.told(), machine.seen()[:7])

    def test_cells(self):
        for cells in ([], [5], [0, 255], [1, 2, 3], [1, 2, 3, 255]):
            for sort in (Above, Runner):
                machine = sort(TABLE, program_of(TABLE, []), cells)
                self.assertEqual(machine.seen()[5], tuple(cells) + (0,) * (4 - len(cells)))
        machine = Above(TABLE, program_of(TABLE, []), cells=[7])
        self.assertEqual(machine.seen()[3:6], ((0, 0), (0, 0), (7, 0, 0, 0)))

    def test_cells_are_copied(self):
        cells = [1, 2, 3, 4]
        machine = above(["add a 9", "copy 0"], cells=cells)
        cells[1] = 77
        self.assertEqual(machine.seen()[5], (1, 2, 3, 4))
        machine.run(2)
        self.assertEqual((cells, machine.seen()[5]), ([1, 77, 3, 4], (9, 2, 3, 4)))

    def test_bad_cells(self):
        bad = ([1, 2, 3, 4, 5], [256], [-1], [True], [0, False], [None], ["0"], [[0]], (), (1,), {}, {0: 1}, "", "1", 0, 3, True,
               False, TABLE, program_of(TABLE, []))
        for thing in bad:
            for sort in (Above, Runner):
                refuses(self, lambda: sort(TABLE, program_of(TABLE, []), thing), NoState, thing)

    def test_two_machines_have_nothing_in_common(self):
        program = read_program(TABLE, "add a 1")
        one, other = Above(TABLE, program), Above(TABLE, program)
        one.ring()
        one.run(5)
        self.assertEqual(other.seen(), ("on", None, 0) + NOUGHTS + (0, ()))


class RowByRow(unittest.TestCase):
    def test_rows_and_the_end(self):
        machine = above(["add a 3", "add b 250"])
        self.assertIs(machine.one_row(), True)
        self.assertEqual(machine.seen(), ("on", None, 1, (3, 0), (0, 0), (0, 0, 0, 0), (), 1, ()))
        self.assertIs(machine.one_row(), True)
        self.assertEqual(short(machine), ("on", None, 2, (), 2, ()))
        self.assertIs(machine.one_row(), False)
        self.assertEqual(machine.seen(), ("end", None, 2, (3, 250), (0, 0), (0, 0, 0, 0), (), 2, ()))
        for _ in range(3):
            machine.ring()
            self.assertIs(machine.one_row(), False)
            self.assertEqual(machine.seen(), ("end", None, 2, (3, 250), (0, 0), (0, 0, 0, 0), (), 2, ()))

    def test_without_rows(self):
        machine = above([])
        self.assertEqual(short(machine), ("on", None, 0, (), 0, ()))
        self.assertIs(machine.one_row(), False)
        self.assertEqual(short(machine), ("end", None, 0, (), 0, ()))

    def test_the_end_by_go_call_and_back(self):
        machine = above(["jump 1"])
        machine.one_row()
        self.assertEqual(short(machine), ("on", None, 1, (), 1, ()))
        self.assertIs(machine.one_row(), False)
        self.assertEqual(short(machine), ("end", None, 1, (), 1, ()))
        machine = above(["sub 1"])
        machine.run(9)
        self.assertEqual(short(machine), ("end", None, 1, (1,), 1, ()))
        machine = above(["sub 2", "jump 3", "ret"])
        self.assertEqual(machine.run(9), 3)
        self.assertEqual(short(machine), ("end", None, 3, (), 3, ()))

    def test_runs_that_end_by_a_row(self):
        for lines, wanted in ((["jump 1", "halt"], ("stop", None, 1, (), 2, ())), (["bad"], ("fault", "odd", 0, (), 1, ())),
                              (["ret"], ("fault", "bare", 0, (), 1, ())), (["sub 0"], ("fault", "deep", 0, (1, 1), 3, ()))):
            machine = above(["bell 0"] + lines)
            while machine.state.word == "on":
                self.assertIs(machine.one_row(), True)
            self.assertEqual(short(machine), wanted)
            seen = machine.seen()
            machine.ring()
            self.assertIs(machine.one_row(), False)
            self.assertEqual(machine.seen(), seen)
        machine = above(["bad"])
        machine.one_row()
        self.assertEqual(machine.seen()[3], (9, 0))

    def test_seen_is_the_state_as_it_is(self):
        machine = above(["add a 3", "add b 4", "jump 0"])
        state = machine.state
        for _ in range(4):
            machine.one_row()
            self.assertEqual(machine.seen()[:7], machine.state.told())
        machine.state.cells[2] = 5
        self.assertEqual(machine.seen()[5], (0, 0, 5, 0))
        self.assertIs(machine.state, state)


class Bells(unittest.TestCase):
    def test_without_a_bell_row(self):
        machine = above(["add a 1", "jump 0"])
        machine.ring()
        self.assertEqual(machine.run(4, [0, 1, 2, 3]), 4)
        self.assertEqual(short(machine), ("on", None, 0, (), 4, ()))

    def test_ahead_of_the_first_row(self):
        machine = above(["bell 2", "add a 1", "halt", "add b 1", "ret"])
        self.assertIsNone(machine.ring())
        self.assertEqual(short(machine), ("on", None, 0, (), 0, ()))
        self.assertIs(machine.one_row(), True)
        self.assertEqual(machine.seen(), ("on", None, 3, (0, 1), (0, 0), (0, 0, 0, 0), (0,), 1, (0,)))
        self.assertIs(machine.one_row(), True)
        self.assertEqual(short(machine), ("on", None, 0, (), 2, (0,)))
        self.assertEqual(machine.run(9), 2)
        self.assertEqual(machine.seen(), ("stop", None, 1, (1, 1), (0, 0), (0, 0, 0, 0), (), 4, (0,)))

    def test_between_two_rows(self):
        machine = above(["bell 2", "add a 1", "jump 0", "add b 1", "ret"])
        machine.one_row()
        machine.ring()
        self.assertEqual(short(machine), ("on", None, 1, (), 1, ()))
        machine.one_row()
        self.assertEqual(short(machine), ("on", None, 3, (1,), 2, (1,)))
        machine.run(2)
        self.assertEqual(short(machine), ("on", None, 0, (), 4, (1,)))

    def test_rung_twice_is_one_bell(self):
        machine = above(["bell 2", "add a 1", "jump 0", "add b 1", "ret"])
        machine.ring()
        machine.ring()
        machine.run(3)
        self.assertEqual(machine.seen()[3], (1, 1))
        self.assertEqual(short(machine)[4:], (3, (0,)))

    def test_rung_again_behind_the_taking(self):
        machine = above(["bell 2", "add a 1", "jump 0", "add b 1", "ret"])
        machine.ring()
        machine.one_row()
        machine.ring()
        machine.one_row()
        self.assertEqual(short(machine), ("on", None, 3, (0, 3), 2, (0, 1)))

    def test_the_gate(self):
        lines = ["bell 4", "flag g 1", "add a 1", "flag g 0", "jump 0", "add b 1", "ret"]
        machine = above(lines)
        machine.one_row()
        machine.ring()
        self.assertEqual(machine.run(2), 2)
        self.assertEqual(short(machine), ("on", None, 3, (), 3, ()))
        machine.one_row()
        self.assertEqual(short(machine), ("on", None, 5, (3,), 4, (3,)))
        for other in (above([line.replace("flag g 1", "flag m 1") for line in lines]), above(lines, UNGATED)):
            other.one_row()
            other.ring()
            other.one_row()
            self.assertEqual(short(other), ("on", None, 5, (1,), 2, (1,)))

    def test_kept_waiting_to_the_end(self):
        machine = above(["bell 0", "flag g 1"])
        machine.one_row()
        machine.ring()
        self.assertIs(machine.one_row(), False)
        self.assertEqual(short(machine), ("end", None, 1, (), 1, ()))

    def test_ahead_of_the_end(self):
        machine = above(["bell 1", "jump 3", "add a 1", "ret"])
        machine.one_row()
        self.assertEqual(short(machine), ("on", None, 3, (), 1, ()))
        machine.ring()
        self.assertIs(machine.one_row(), True)
        self.assertEqual(short(machine), ("on", None, 2, (3,), 2, (1,)))
        self.assertEqual(machine.run(5), 1)
        self.assertEqual(short(machine), ("end", None, 3, (), 3, (1,)))

    def test_a_bell_row_that_is_the_end(self):
        machine = above(["bell 2", "add a 1", "jump 0"])
        machine.ring()
        self.assertIs(machine.one_row(), False)
        self.assertEqual(short(machine), ("end", None, 2, (0,), 0, (0,)))
        machine = above(["bell 0"])
        machine.ring()
        self.assertIs(machine.one_row(), False)
        self.assertEqual(short(machine), ("end", None, 0, (0,), 0, (0,)))

    def test_at_a_full_pile(self):
        machine = above(["bell 0", "sub 1", "sub 2", "jump 2"])
        machine.run(3)
        machine.ring()
        self.assertIs(machine.one_row(), False)
        self.assertEqual(short(machine), ("fault", "deep", 2, (1, 2), 3, (3,)))
        machine.ring()
        self.assertIs(machine.one_row(), False)
        self.assertEqual(short(machine), ("fault", "deep", 2, (1, 2), 3, (3,)))
        flat = above(["bell 0", "jump 0"], FLAT)
        self.assertEqual(flat.run(3, [2]), 2)
        self.assertEqual(short(flat), ("fault", "deep", 0, (), 2, (2,)))

    def test_at_a_full_pile_where_the_end_comes_next(self):
        machine = above(["bell 0"], FLAT)
        machine.ring()
        self.assertIs(machine.one_row(), False)
        self.assertEqual(short(machine), ("fault", "deep", 0, (), 0, (0,)))

    def test_at_most_one_bell_between_two_rows(self):
        machine = above(["bell 0", "jump 0"])
        machine.ring()
        machine.one_row()
        self.assertEqual(short(machine)[3:], ((0,), 1, (0,)))


class Runs(unittest.TestCase):
    def test_budgets(self):
        machine = above(["jump 0"])
        self.assertEqual(machine.run(0), 0)
        self.assertEqual(short(machine), ("on", None, 0, (), 0, ()))
        self.assertEqual(machine.run(2000), 2000)
        self.assertEqual(machine.run(1), 1)
        self.assertEqual(short(machine), ("on", None, 0, (), 2001, ()))
        ended = above(["add a 1", "halt"])
        self.assertEqual(ended.run(2000), 2)
        self.assertEqual(ended.run(2000), 0)

    def test_no_budgets(self):
        machine = above(["bell 0", "jump 0"])
        for thing in (-1, 2001, 10 ** 29, True, False, None, "", "3", (), [], [3], {}, machine, TABLE) + ODD_THINGS:
            refuses(self, lambda: machine.run(thing), NoBudget, thing)
            refuses(self, lambda: machine.run(thing, [0]), NoBudget, thing)
        machine.one_row()
        self.assertEqual(short(machine), ("on", None, 0, (), 1, ()))
        over = above([])
        over.one_row()
        refuses(self, lambda: over.run(2001), NoBudget, 2001)

    def test_nothing_asked_for_no_end(self):
        machine = above([])
        self.assertEqual(machine.run(0, [0]), 0)
        self.assertEqual(machine.seen()[0], "on")
        self.assertEqual(machine.run(1), 0)
        self.assertEqual(machine.seen()[0], "end")

    def test_bells(self):
        for bells in ([2, 9], [9, 2, 2, -5, 3000]):
            machine = above(["bell 2", "add a 1", "jump 0", "add b 1", "ret"])
            handed = list(bells)
            self.assertEqual(machine.run(9, bells), 9)
            self.assertEqual(short(machine)[4:], (9, (2,)))
            self.assertEqual(bells, handed)
            self.assertEqual(machine.run(1, bells=bells), 1)
            self.assertEqual(short(machine)[4:], (10, (2, 9)))
        self.assertEqual(machine.run(1, None), 1)
        self.assertEqual(machine.run(1, []), 1)
        self.assertEqual(short(machine)[4:], (12, (2, 9)))

    def test_numbers_count_from_the_first_row_on(self):
        machine = above(["bell 1", "jump 0", "ret"])
        machine.run(3, [])
        machine.run(3, [0, 1, 2])
        self.assertEqual(short(machine)[4:], (6, ()))
        machine.run(2, [7])
        self.assertEqual(short(machine)[4:], (8, (7,)))

    def test_a_bell_at_the_asking_that_ends_the_run(self):
        machine = above(["bell 1", "jump 2", "ret"])
        self.assertEqual(machine.run(9, [1]), 2)
        self.assertEqual(short(machine), ("end", None, 2, (), 2, (1,)))

    def test_what_is_seen_is_the_askers_own(self):
        machine = above(["bell 0", "jump 0"])
        machine.run(2, [0])
        seen = machine.seen()
        self.assertEqual(seen, machine.seen())
        self.assertIs(type(seen), tuple)
        for part in seen[3:7] + seen[8:]:
            self.assertIs(type(part), tuple)
        machine.run(2, [2])
        self.assertEqual(seen[7:], (2, (0,)))

    def test_drawn_runs(self):
        source = random.Random(39)
        for _ in range(300):
            table = some_table(source, 3, 2)
            program = some_program(source, table)
            cells = [some_word(source, table.width) for _ in range(source.randint(0, table.cells))]
            rings = [source.randint(0, 25) for _ in range(source.choice([0, 2, 5]))]
            machine = Above(table, program, cells)
            asked = 0
            for _ in range(4):
                more = source.randint(0, 10)
                machine.run(more, rings)
                asked += more
                self.assertEqual(machine.seen(), seen_behind(table, program, cells, asked, rings))


class Changed(unittest.TestCase):
    OTHER = read_table(TEXT.replace("( p + x )", "( p - x )").replace("{ back }", "{ stop }"))

    def test_going_on_by_another_table(self):
        machine = above(["bell 2", "add a 1", "jump 0", "add b 1", "ret"])
        machine.run(3)
        machine.ring()
        seen = machine.seen()
        self.assertIsNone(machine.change(self.OTHER))
        self.assertIs(machine.table, self.OTHER)
        self.assertEqual(machine.seen(), seen)
        machine.one_row()
        self.assertEqual(machine.seen(), ("on", None, 3, (2, 255), (0, 0), (0, 0, 0, 0), (1,), 4, (3,)))
        machine.one_row()
        self.assertEqual(machine.seen()[:3], ("stop", None, 3))

    def test_another_shape(self):
        machine = above(["bell 0", "add a 1", "jump 0"])
        machine.run(1)
        for old, new in (("gate g", "gate m"), ("gate g", "gate"), ("depth 2", "depth 3"), ("word 8", "word 9"),
                         ("kind halt", "kind halts"), ("x number ) { set p", "x place ) { set p")):
            other = read_table(TEXT.replace(old, new))
            with self.assertRaises(Unlike) as caught:
                machine.change(other)
            self.assertEqual(vars(caught.exception), {"word": "shape"})
            with self.assertRaises(Unlike) as caught:
                machine.need_shape(other)
            self.assertEqual(caught.exception.word, "shape")
            self.assertIs(machine.table, TABLE)
        self.assertIsNone(machine.need_shape(self.OTHER))
        self.assertIsNone(machine.change(TABLE))
        machine.run(1)
        self.assertEqual(short(machine), ("on", None, 0, (), 2, ()))

    def test_an_ended_run_stays_ended(self):
        machine = above(["halt"])
        machine.run(1)
        machine.change(self.OTHER)
        self.assertIs(machine.one_row(), False)
        self.assertEqual(short(machine), ("stop", None, 0, (), 1, ()))


class ForTheClassesUnderIt(unittest.TestCase):
    def test_between(self):
        machine = Runner(TABLE, read_program(TABLE, "bell 1\nadd a 1\nadd b 1"))
        self.assertIs(machine.between(), True)
        self.assertEqual(short(machine), ("on", None, 0, (), 0, ()))
        machine.ring()
        self.assertIs(machine.between(), True)
        self.assertEqual(short(machine), ("on", None, 1, (0,), 0, (0,)))
        over = Runner(TABLE, read_program(TABLE, ""))
        self.assertIs(over.between(), False)
        self.assertEqual(short(over), ("end", None, 0, (), 0, ()))
        self.assertIs(over.between(), False)

    def test_row_left(self):
        machine = Runner(TABLE, read_program(TABLE, "jump 1\njump 0"))
        self.assertIsNone(machine.row_left(("call", 1), (0, 2)))
        self.assertEqual(short(machine), ("on", None, 2, (1,), 1, ()))
        machine.row_left(("stop",), ())
        self.assertEqual(short(machine), ("stop", None, 2, (1,), 2, ()))
        self.assertIs(machine.between(), False)


if __name__ == "__main__":
    unittest.main()
