"""Promises 91 to 95 and 97: the machine beneath, beat by beat."""

import random
import unittest

from rowsbeneath.above import Runner
from rowsbeneath.beneath import Beneath
from rowsbeneath.errors import NoBudget, NoState, Unlike, Within
from rowsbeneath.laying import made_of
from rowsbeneath.programs import program_of, read_program
from rowsbeneath.tabletext import read_table
from tests import oracle_beneath
from tests.draws import some_made, some_program, some_word
from tests.helpers import ODD_THINGS, refuses

TEXT = """word 8 ; cells 5 ; depth 2 ; places a b ; marks m ; gate GATE ;
kind add ( p place , n number ) { set p = ( p + n ) ; next }
kind flag ( n number ) { set m = n ; next }
kind jump ( r row ) { if a { go r } else { next } }
kind down ( r row ) { call r }
kind up ( ) { back }
kind halt ( ) { stop }
kind fail ( ) { set b = 7 ; fault odd }
kind save ( n number ) { set [ a ] = n ; next }"""
TABLE = read_table(TEXT.replace("GATE", ""))
GATED = read_table(TEXT.replace("GATE", "m"))
MADE = made_of(TABLE, 2, 40)
MADE_GATED = made_of(GATED, 2, 40)


def begun(text, cells=None, made=MADE):
    return Beneath(made, read_program(made.table, text), cells)


def beats_all(machine):
    """What is seen behind each beat, to the end of the run."""
    told = [machine.seen()]
    while machine.beat():
        told.append(machine.seen())
    return told


class Begin(unittest.TestCase):
    def test_ahead_of_the_first_beat(self):
        machine = begun("add a 5\nhalt", [1, 2])
        self.assertIsInstance(machine, Runner)
        self.assertEqual(machine.seen(), ("on", None, 0, (0, 0), (0,), (1, 2, 0, 0, 0), (), 0, ()))
        self.assertIs(machine.within(), False)
        self.assertEqual(machine.beats_done(), 0)
        self.assertEqual(machine.inner_places(), [0, 0])
        self.assertIs(machine.table, TABLE)
        self.assertEqual(machine.program.rows, (("add", (0, 5)), ("halt", ())))
        for many in range(2, 9):
            self.assertEqual(Beneath(made_of(TABLE, many, 40), machine.program).inner_places(), [0] * many)

    def test_cells(self):
        for cells in (None, [], [1], [1, 2, 3, 4], [255] * 5):
            told = begun("halt", cells).seen()[5]
            self.assertEqual(told, tuple(cells or ()) + (0,) * (5 - len(cells or ())))
        program = program_of(TABLE, [])
        for cells in ([0] * 6, [256], [-1], [True], [None], ["1"], (), (1,), "", 5, {}, True, [[]], [1, 2, 3, 4, 256]):
            refuses(self, lambda: Beneath(MADE, program, cells), NoState, cells)
            refuses(self, lambda: Beneath(MADE, program, cells=cells), NoState, cells)

    def test_cells_are_copied(self):
        cells = [1, 2, 3]
        machine = begun("save 9\nhalt", cells)
        cells[1] = 77
        machine.run(20)
        self.assertEqual(machine.seen()[5], (9, 2, 3, 0, 0))
        self.assertEqual(cells, [1, 77, 3])


class OneBeat(unittest.TestCase):
    def test_beat_by_beat(self):
        machine = begun("add a 5\nadd b 7\nhalt")
        self.assertEqual([row.words() for row in MADE.rows_laid()[:3]], [
            "put f0 r1 : done next", "two r1 + r0 f1 : on 0", "get r0 f0 : on 1"])
        told = []
        for _ in range(8):
            told.append((machine.beat(), machine.within(), machine.beats_done(), machine.inner_places(), machine.seen()[:4], machine.seen()[7]))
        self.assertEqual(told, [
            (True, True, 1, [0, 0], ("on", None, 0, (0, 0)), 0),
            (True, True, 2, [0, 5], ("on", None, 0, (0, 0)), 0),
            (True, False, 3, [0, 5], ("on", None, 1, (5, 0)), 1),
            (True, True, 4, [0, 5], ("on", None, 1, (5, 0)), 1),
            (True, True, 5, [0, 7], ("on", None, 1, (5, 0)), 1),
            (True, False, 6, [0, 7], ("on", None, 2, (5, 7)), 2),
            (True, False, 7, [0, 7], ("stop", None, 2, (5, 7)), 3),
            (False, False, 7, [0, 7], ("stop", None, 2, (5, 7)), 3)])

    def test_inner_places_keep_their_words(self):
        machine = begun("add a 5\nhalt\nhalt", made=MADE)
        machine.run(3)
        self.assertEqual(machine.inner_places(), [0, 5])
        told = machine.inner_places()
        told[0] = 99
        self.assertEqual(machine.inner_places(), [0, 5])
        machine.run(20)
        self.assertEqual(machine.inner_places(), [0, 5])

    def test_within_a_row_it_stands_as_the_steps_left_it(self):
        table = read_table("word 8 ; cells 4 ; depth 0 ; places a b ; marks m ; gate ; kind k ( ) { set a = 1 ; set m = 1 ; set [ 2 ] = 9 ; next }")
        machine = Beneath(made_of(table, 2, 9), program_of(table, [("k", ()), ("k", ())]))
        seen = beats_all(machine)
        self.assertEqual([(told[2], told[3], told[4], told[5], told[7]) for told in seen[:4]], [
            (0, (0, 0), (0,), (0, 0, 0, 0), 0), (0, (1, 0), (0,), (0, 0, 0, 0), 0), (0, (1, 0), (1,), (0, 0, 0, 0), 0),
            (1, (1, 0), (1,), (0, 0, 9, 0), 1)])

    def test_a_beat_when_the_word_is_not_on(self):
        for text in ("halt", "fail", "up", "", "down 0"):
            machine = begun(text)
            machine.run(20)
            self.assertNotEqual(machine.seen()[0], "on")
            told = (machine.seen(), machine.beats_done(), machine.inner_places())
            machine.ring()
            self.assertIs(machine.beat(), False)
            self.assertEqual(machine.run(5), 0)
            self.assertEqual((machine.seen(), machine.beats_done(), machine.inner_places()), told)
            self.assertIs(machine.within(), False)

    def test_a_program_without_rows(self):
        machine = begun("")
        self.assertEqual(machine.seen()[0], "on")
        self.assertIs(machine.beat(), False)
        self.assertEqual(machine.seen(), ("end", None, 0, (0, 0), (0,), (0,) * 5, (), 0, ()))
        self.assertEqual(machine.beats_done(), 0)

    def test_the_ends_of_a_run(self):
        self.assertEqual(beats_all(begun("halt"))[-1][:3] + beats_all(begun("halt"))[-1][6:], ("stop", None, 0, (), 1, ()))
        self.assertEqual(beats_all(begun("add a 1\nfail"))[-1], ("fault", "odd", 1, (1, 7), (0,), (0,) * 5, (), 2, ()))
        self.assertEqual(beats_all(begun("up"))[-1][:3], ("fault", "bare", 0))
        self.assertEqual(beats_all(begun("down 0"))[-1][:3], ("fault", "deep", 0))
        self.assertEqual(beats_all(begun("down 0"))[-1][6:], ((1, 1), 3, ()))
        machine = begun("add a 1")
        self.assertEqual(machine.run(20), 3)
        self.assertEqual(machine.seen()[:3], ("end", None, 1))

    def test_the_end_is_seen_when_a_beat_is_asked_for(self):
        machine = begun("add a 1")
        self.assertEqual(machine.run(3), 3)
        self.assertEqual(machine.seen()[:3], ("on", None, 1))
        self.assertEqual(machine.run(0), 0)
        self.assertEqual(machine.seen()[:3], ("on", None, 1))
        self.assertIs(machine.beat(), False)
        self.assertEqual(machine.seen()[:3], ("end", None, 1))


class Bells(unittest.TestCase):
    def test_a_bell_within_a_row_is_taken_behind_it(self):
        machine = begun("bell 2\nadd a 1\nhalt\nadd b 1\nup")
        machine.run(1)
        machine.ring()
        self.assertEqual(machine.seen()[6:], ((), 0, ()))
        machine.run(2)
        self.assertEqual(machine.seen()[2:3] + machine.seen()[6:], (1, (), 1, ()))
        machine.run(1)
        self.assertEqual(machine.seen()[2:3] + machine.seen()[6:], (2, (1,), 1, (1,)))
        machine.run(20)
        self.assertEqual(machine.seen(), ("stop", None, 1, (1, 1), (0,), (0,) * 5, (), 4, (1,)))

    def test_rung_twice_while_one_waits(self):
        machine = begun("bell 2\nadd a 1\nhalt\nadd b 1\nup")
        machine.run(1)
        for _ in range(3):
            machine.ring()
        machine.run(1)
        machine.ring()
        machine.run(20)
        self.assertEqual(machine.seen()[3:4] + machine.seen()[7:], ((1, 1), 4, (1,)))

    def test_ahead_of_the_first_row(self):
        machine = begun("bell 2\nadd a 1\nhalt\nadd b 1\nup")
        machine.ring()
        self.assertEqual(machine.seen()[8], ())
        machine.beat()
        self.assertEqual(machine.seen()[2:3] + machine.seen()[6:], (2, (0,), 0, (0,)))

    def test_without_a_bell_row_nothing_waits(self):
        machine = begun("add a 1\nhalt")
        machine.ring()
        machine.run(1)
        machine.ring()
        machine.run(20)
        self.assertEqual(machine.seen()[7:], (2, ()))

    def test_a_run_that_ends_by_a_bell(self):
        machine = begun("bell 0\ndown 1\ndown 2\nadd a 1\nhalt")
        machine.run(3)
        machine.ring()
        self.assertTrue(machine.within())
        self.assertEqual(machine.run(20), 2)
        self.assertEqual(machine.seen(), ("fault", "deep", 3, (1, 0), (0,), (0,) * 5, (1, 2), 3, (3,)))
        self.assertEqual(machine.beats_done(), 5)
        self.assertIs(machine.within(), False)

    def test_a_bell_that_leads_to_the_end(self):
        machine = begun("bell 2\nadd a 1\nhalt")
        machine.ring()
        self.assertIs(machine.beat(), False)
        self.assertEqual(machine.seen(), ("end", None, 2, (0, 0), (0,), (0,) * 5, (0,), 0, (0,)))

    def test_behind_a_gate_that_opens_later(self):
        machine = begun("bell 5\nflag 1\nadd a 1\nadd a 1\nflag 0\nhalt\nadd b 1\nup", made=MADE_GATED)
        machine.run(2)
        machine.ring()
        machine.run(5)
        self.assertEqual(machine.seen()[7:], (3, ()))
        machine.run(20)
        self.assertEqual(machine.seen(), ("stop", None, 4, (2, 1), (0,), (0,) * 5, (), 7, (4,)))

    def test_behind_a_gate_that_never_opens(self):
        machine = begun("bell 3\nflag 1\nadd a 1\nhalt\nadd b 1\nup", made=MADE_GATED)
        machine.run(1)
        machine.ring()
        machine.run(20)
        self.assertEqual(machine.seen()[:4] + machine.seen()[7:], ("stop", None, 2, (1, 0), 3, ()))
        # The gate is looked at between two rows alone: within a row nothing is taken, whatever its mark is.
        machine = begun("bell 3\nflag 1\nflag 0\nhalt\nhalt", made=MADE_GATED)
        machine.run(2, [1])
        self.assertEqual(machine.seen()[7:], (2, ()))


class Run(unittest.TestCase):
    def test_budgets(self):
        for thing in ODD_THINGS + (-1, 2001, "5", (5,)):
            machine = begun("add a 1\njump 0\nhalt")
            refuses(self, lambda: machine.run(thing), NoBudget, thing)
            refuses(self, lambda: machine.run(thing, [0]), NoBudget, thing)
            self.assertEqual((machine.beats_done(), machine.seen()[0]), (0, "on"))
        for many in (0, 1, 1999, 2000):
            machine = begun("add a 1\njump 0\njump 0\ndown 0")
            self.assertEqual(machine.run(many), min(many, machine.beats_done()))
        machine = begun("add b 0\nadd a 1\njump 0\nadd a 1\njump 0")
        self.assertEqual(machine.run(2000), 2000)
        self.assertEqual(machine.beats_done(), 2000)
        self.assertEqual(machine.seen()[0], "on")

    def test_rings(self):
        text = "bell 3\nadd a 1\nadd a 1\nhalt\nadd b 1\nup"
        for rings, noted in (
            (None, ()), ([], ()), ([0], (0,)), ([0, 0, 0], (0,)), ([1], (1,)), ([2, 1], (1,)), ([3], (1,)), ([4], (2,)), ([100], ()),
            ([-1, 10 ** 29], ()), ([1, 9], (1, 4)), ([1, 7], (1, 3)), ([1, 7, 7, 8], (1, 3, 4)), ([5], (2,)), ([6], (2,)), ([7], ()),
        ):
            machine = begun(text)
            machine.run(50, rings)
            self.assertEqual(machine.seen()[8], noted, rings)
        machine = begun(text)
        rings = [0, 4]
        machine.run(3, rings=rings)
        machine.run(50, rings)
        self.assertEqual(rings, [0, 4])

    def test_rings_are_numbers_of_beats_done_so_far(self):
        machine = begun("bell 3\nadd a 1\nadd a 1\nhalt\nadd b 1\nup")
        machine.run(3)
        machine.run(5, [0, 2])
        self.assertEqual(machine.seen()[8], ())
        other = begun("bell 3\nadd a 1\nadd a 1\nhalt\nadd b 1\nup")
        other.run(3, [3])
        self.assertEqual(other.seen()[8], ())
        other.run(5, [3])
        self.assertEqual(other.seen()[8], (1,))

    def test_one_piece_and_several(self):
        source = random.Random(93)
        for _ in range(60):
            made = some_made(source, deep=3)
            program = some_program(source, made.table)
            rings = [source.randint(0, 60) for _ in range(source.randint(0, 4))]
            whole, pieces = Beneath(made, program), Beneath(made, program)
            done = whole.run(80, rings)
            left, total = 80, 0
            while left:
                piece = source.randint(0, left)
                total += pieces.run(piece, rings)
                left -= piece
            self.assertEqual(total, done)
            self.assertEqual(pieces.seen(), whole.seen())
            self.assertEqual(pieces.inner_places(), whole.inner_places())
            self.assertEqual((pieces.beats_done(), pieces.within()), (whole.beats_done(), whole.within()))


class Change(unittest.TestCase):
    OTHER = made_of(read_table(TEXT.replace("GATE", "").replace("( p + n )", "( p - n )")), 2, 40)
    SHAPE = made_of(read_table(TEXT.replace("GATE", "").replace("depth 2", "depth 3")), 2, 40)
    PLACES = made_of(TABLE, 3, 40)
    BOTH = made_of(SHAPE.table, 3, 40)

    def test_refusals(self):
        machine = begun("add a 5\nadd b 7\nhalt")
        for _ in range(2):
            refuses(self, lambda: machine.change(self.SHAPE), Unlike, "shape")
            refuses(self, lambda: machine.change(self.BOTH), Unlike, "shape")
            refuses(self, lambda: machine.change(self.PLACES), Unlike, "places")
            machine.run(1)
            for made in (self.OTHER, self.SHAPE, self.PLACES, self.BOTH, MADE):
                refuses(self, lambda: machine.change(made), Within)
            machine.run(2)
        refuses(self, lambda: machine.change(self.SHAPE), Unlike, "shape")
        self.assertEqual(machine.run(20), 1)
        self.assertEqual(machine.seen(), ("stop", None, 2, (5, 7), (0,), (0,) * 5, (), 3, ()))
        refuses(self, lambda: machine.change(self.PLACES), Unlike, "places")

    def test_between_two_rows(self):
        machine = begun("add a 5\nadd b 7\nhalt")
        machine.run(3)
        told = (machine.seen(), machine.inner_places(), machine.beats_done(), machine.within())
        self.assertIsNone(machine.change(self.OTHER))
        self.assertEqual((machine.seen(), machine.inner_places(), machine.beats_done(), machine.within()), told)
        self.assertIs(machine.table, self.OTHER.table)
        machine.run(20)
        self.assertEqual(machine.seen()[3], (5, 249))

    def test_ahead_of_the_first_row_and_behind_the_end(self):
        machine = begun("add a 5\nadd b 7\nhalt")
        machine.change(self.OTHER)
        machine.run(20)
        self.assertEqual(machine.seen()[3], (251, 249))
        told = machine.seen()
        machine.change(MADE)
        self.assertEqual(machine.seen(), told)
        self.assertIs(machine.beat(), False)

    def test_a_bell_that_waits_stays(self):
        machine = begun("bell 2\nadd a 5\nhalt\nadd b 7\nup")
        machine.run(2)
        machine.ring()
        machine.run(1)
        machine.change(self.OTHER)
        machine.run(20)
        self.assertEqual(machine.seen()[3:4] + machine.seen()[7:], ((5, 249), 4, (1,)))

    def test_a_room_of_another_size(self):
        machine = begun("add a 5\nadd b 7\nhalt")
        machine.run(3)
        machine.change(made_of(TABLE, 2, 400))
        machine.run(20)
        self.assertEqual(machine.seen()[3], (5, 7))


class AgainstTheSecondTelling(unittest.TestCase):
    def test_drawn_runs(self):
        source = random.Random(921)
        for _ in range(150):
            made = some_made(source, deep=3)
            table, program = made.table, some_program(source, made.table)
            cells = [some_word(source, table.width) for _ in range(source.randint(0, table.cells))]
            machine = Beneath(made, program, cells)
            told = oracle_beneath.first(table, made.room_told(), {kind: made.entry(kind) for kind in table.kinds}, made.many, program, cells)
            for _ in range(source.randint(1, 120)):
                if source.random() < 0.1:
                    machine.ring()
                    told = oracle_beneath.rung(told)
                told, done = oracle_beneath.beat(told)
                self.assertIs(machine.beat(), done)
                self.assertEqual(machine.seen(), oracle_beneath.seen(told))
                self.assertEqual(machine.inner_places(), list(told["inner"]))
                self.assertEqual((machine.within(), machine.beats_done()), (told["coming"] is not None, told["beats"]))
                if not done:
                    break


if __name__ == "__main__":
    unittest.main()
