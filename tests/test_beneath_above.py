"""Promises 96 and 97: between two rows the machine beneath tells what the machine above tells."""

import random
import unittest

from rowsbeneath.above import Above
from rowsbeneath.beneath import Beneath
from rowsbeneath.errors import RowsError
from rowsbeneath.laying import made_of
from rowsbeneath.programs import program_of, same_shape
from rowsbeneath.tabletext import read_table, show_table
from tests.draws import some_made, some_program, some_word
from tests.oracle_above import seen_behind


def above_behind(table, program, cells, seen, changes=()):
    """What is seen of a machine above that is asked for as many rows, and once more where that is told.

    changes are tuples (rows, table): the machine goes on by that table behind so many rows.
    """
    word, rows, noted = seen[0], seen[7], list(seen[8])
    machine = Above(table, program, cells)
    done = 0
    for behind, other in changes:
        done += machine.run(behind - done, noted)
        machine.change(other)
    machine.run(rows - done, noted)
    if word == "end" or word == "fault" and machine.seen()[0] == "on":
        machine.run(1, noted)
    return machine.seen()


class TheSameAsAbove(unittest.TestCase):
    def walk(self, source, made, program, cells, asked, ring_often):
        """Runs a machine in pieces, rung at drawn times; looks between each two rows. The word behind it."""
        machine = Beneath(made, program, cells)
        while asked:
            piece = source.randint(1, min(asked, 9))
            rings = [machine.beats_done() + source.randrange(piece) for _ in range(3) if source.random() < ring_often]
            machine.run(piece, rings)
            asked -= piece
            if not machine.within():
                self.assertEqual(machine.seen(), above_behind(made.table, program, cells, machine.seen()))
        return machine.seen()

    def test_drawn_runs(self):
        source = random.Random(96)
        words = {}
        for _ in range(250):
            made = some_made(source, deep=3, kinds=6)
            program = some_program(source, made.table)
            cells = [some_word(source, made.table.width) for _ in range(source.randint(0, made.table.cells))]
            seen = self.walk(source, made, program, cells, source.randint(1, 120), source.choice([0, 0.1, 0.4]))
            how = (seen[0], seen[1], bool(seen[8]) and seen[8][-1] == seen[7])
            words[how] = words.get(how, 0) + 1
        for how in (("on", None, False), ("stop", None, False), ("end", None, False), ("fault", "deep", True), ("fault", "bare", False),
                    ("fault", "odd", False), ("fault", "deep", False)):
            self.assertGreater(words.get(how, 0), 3, (how, words))

    def test_against_the_second_telling(self):
        source = random.Random(961)
        for _ in range(120):
            made = some_made(source, deep=3)
            program = some_program(source, made.table)
            machine = Beneath(made, program)
            machine.run(source.randint(1, 150), [source.randint(0, 60) for _ in range(3)])
            while machine.within():
                machine.beat()
            seen = machine.seen()
            once_more = seen[0] == "end" or seen[0] == "fault" and seen[8][-1:] == (seen[7],)
            told = seen_behind(made.table, program, [], seen[7] + once_more, seen[8])
            # A run whose last row ended by a fault is not asked once more, though a bell be noted there.
            self.assertIn(seen, (told, seen_behind(made.table, program, [], seen[7], seen[8])))

    def test_with_rooms_by_which_it_went_on(self):
        source = random.Random(962)
        changed = 0
        for _ in range(250):
            made = some_made(source, deep=3, kinds=3)
            rooms = [made] + [other for other in [self.otherwise(source, made) for _ in range(3)] if other is not None]
            program = some_program(source, made.table)
            machine = Beneath(made, program)
            changes = []
            for _ in range(16):
                machine.run(source.randint(1, 5), [machine.beats_done() + source.randrange(5)] if source.random() < 0.2 else None)
                if machine.within():
                    continue
                self.assertEqual(machine.seen(), above_behind(made.table, program, None, machine.seen(), changes))
                if source.random() < 0.6:
                    other = source.choice(rooms)
                    machine.change(other)
                    changes.append((machine.seen()[7], other.table))
                    changed += machine.seen()[0] == "on"
        self.assertGreater(changed, 40)

    def otherwise(self, source, made):
        """A made room of a table of the same shape, sums and ends told otherwise, or None."""
        text = show_table(made.table)
        for old, new in source.sample([(" + ", " - "), (" & ", " | "), (" next ", " stop "), ("= 0 ", "= 1 "), (" < ", " ^ "),
                                       (" go ", " call "), (" back ", " next "), ("if top", "if")], 3):
            text = text.replace(old, new)
        try:
            other = made_of(read_table(text), made.many, source.choice([made.size, 400]))
        except RowsError:
            return None
        self.assertTrue(same_shape(made.table, other.table))
        return other


class BellsOfBoth(unittest.TestCase):
    GATED = read_table("""word 8 ; cells 4 ; depth 3 ; places a b ; marks m ; gate m ;
kind shut ( n number ) { set m = n ; set a = ( a + 1 ) ; next } kind up ( ) { set b = ( b + 1 ) ; back }""")

    def test_behind_a_gate(self):
        made = made_of(self.GATED, 3, 20)
        source = random.Random(97)
        taken = 0
        for _ in range(60):
            rows = [("shut", (source.randint(0, 1),)) for _ in range(8)] + [("up", ())]
            program = program_of(self.GATED, rows, 8)
            machine = Beneath(made, program)
            waits, noted = False, []
            while machine.seen()[0] == "on":
                if source.random() < 0.1:
                    machine.ring()
                    waits = True
                if not machine.within():
                    if waits and machine.seen()[4] == (0,):
                        noted.append(machine.seen()[7])
                        waits = False
                machine.beat()
                self.assertEqual(list(machine.seen()[8]), noted)
            self.assertEqual(machine.seen(), above_behind(self.GATED, program, None, machine.seen()))
            taken += len(noted)
        self.assertGreater(taken, 20)


if __name__ == "__main__":
    unittest.main()
