"""Promises 33 and 34: a program's text, written and read."""

import random
import unittest

from rowsbeneath.errors import BadLine
from rowsbeneath.programs import Program, program_of, read_program, show_program
from rowsbeneath.tabletext import read_table
from tests.draws import some_program, some_table
from tests.helpers import ODD_THINGS, refuses

TABLE = read_table("""word 5 ; cells 9 ; depth 2 ; places a b c ; marks m n ; gate m ;
kind four ( p place , q mark , k number ) { set p = k ; set q = 1 ; next }
kind jump ( r row ) { go r }
kind two ( r row , s row ) { call s }
kind a ( x number ) { stop }
kind halt ( ) { stop }""")
ROWS = (("four", (2, 1, 31)), ("jump", (0,)), ("two", (5, 3)), ("a", (0,)), ("halt", ()))
LINES = ["four c n 31", "jump 0", "two 5 3", "a 0", "halt"]


class Written(unittest.TestCase):
    def both_ways(self, rows, bell, text):
        program = program_of(TABLE, rows, bell)
        self.assertEqual(show_program(TABLE, program), text)
        read = read_program(TABLE, text)
        self.assertIsInstance(read, Program)
        self.assertEqual((read.rows, read.bell), (tuple(rows), bell))

    def test_both_ways(self):
        self.both_ways(ROWS, None, "\n".join(LINES))
        for bell in range(6):
            self.both_ways(ROWS, bell, "\n".join([f"bell {bell}"] + LINES))

    def test_few_rows(self):
        self.both_ways((), None, "")
        self.both_ways((), 0, "bell 0")
        self.both_ways((("halt", ()),), None, "halt")
        self.both_ways((("halt", ()),), 1, "bell 1\nhalt")
        self.both_ways((("jump", (1,)),), None, "jump 1")

    def test_each_name(self):
        for i, place in enumerate("abc"):
            for k, mark in enumerate("mn"):
                self.both_ways((("four", (i, k, 10)),), None, f"four {place} {mark} 10")

    def test_forty_rows(self):
        self.both_ways((("halt", ()),) * 39 + (("jump", (40,)),), 40, "bell 40\n" + "halt\n" * 39 + "jump 40")
        self.both_ways((("halt", ()),) * 40, None, "\n".join(["halt"] * 40))

    def test_drawn_programs(self):
        source = random.Random(33)
        for _ in range(150):
            table = some_table(source, 2, 1, 8)
            program = some_program(source, table, 40)
            text = show_program(table, program)
            read = read_program(table, text)
            self.assertEqual((read.rows, read.bell), (program.rows, program.bell))
            self.assertEqual(show_program(table, read), text)


class Refused(unittest.TestCase):
    def refused(self, text, line):
        refuses(self, lambda: read_program(TABLE, text), BadLine, line)

    def test_what_is_no_text(self):
        for thing in ODD_THINGS + (b"halt", ["halt"], TABLE, program_of(TABLE, [])):
            if not isinstance(thing, str):
                self.refused(thing, 0)

    def test_spoilt_lines(self):
        spoilt = {
            0: ["four  c n 31", " four c n 31", "four c n 31 ", "four c n", "four c", "four", "four c n 31 0", "four c n 31 c",
                "Four c n 31", "fours c n 31", "place c n 31", "four d n 31", "four n n 31", "four p n 31", "four 2 n 31",
                "four c c 31", "four c o 31", "four c 1 31", "four c n 32", "four c n 031", "four c n 00", "four c n -1",
                "four c n +1", "four c n 3_1", "four c n a", "four c n", "four c n ", "four,c,n,31", "four\tc n 31"],
            1: ["jump", "jump ", "jump 6", "jump 00", "jump 05", "jump -1", "jump x", "jump a", "jump 0 0", "jump  0", " jump 0",
                "jump 0 ", "jump 9" + "9" * 5000, "jump r"],
            2: ["two 5", "two 5 6", "two 6 5", "two 5  3", "two 5 3 3", "two 05 3", "two 5 3 "],
            3: ["a", "a a", "a 32", "a 16777216", "a 99999999999999999999", "b 0", "x 0", "bell 0", "bell", "bell 9", "a 00"],
            4: ["", " ", "halt ", " halt", "halt 0", "HALT", "stop", "-", ":", "halt:"],
        }
        for at, texts in spoilt.items():
            for text in texts:
                lines = LINES[:at] + [text] + LINES[at + 1:]
                self.refused("\n".join(lines), at)
                self.refused("\n".join(["bell 5"] + lines), at + 1)

    def test_lines_without_signs(self):
        self.refused("\n", 0)
        self.refused("\nhalt", 0)
        self.refused("halt\n", 1)
        self.refused("halt\n\nhalt", 1)
        self.refused("bell 0\n", 1)
        self.refused("\nbell 0", 0)

    def test_bell_lines(self):
        for bell in ("bell", "bell ", "bell  0", "bell 6", "bell 01", "bell 00", "bell -1", "bell a", "bell 0 ", "bell 0 0",
                     "bell 9" + "9" * 5000, "bell +1", "bells 0", "Bell 0", " bell 0", "bell0"):
            self.refused("\n".join([bell] + LINES), 0)
            self.refused(bell, 0)
        for at in range(1, 6):
            lines = LINES[:at] + ["bell 0"] + LINES[at:]
            self.refused("\n".join(lines), at)
            self.refused("\n".join(["bell 1"] + lines), at + 1)
        self.refused("bell 1", 0)

    def test_a_bell_line_is_no_row(self):
        self.refused("jump 1\nbell 0", 1)
        self.assertEqual(read_program(TABLE, "bell 0\njump 1").rows, (("jump", (1,)),))
        self.refused("bell 0\njump 2", 1)

    def test_numbers_of_rows_to_how_many_lines_there_are(self):
        for many in (1, 2, 9, 40):
            lines = ["halt"] * (many - 1)
            self.assertEqual(read_program(TABLE, "\n".join(lines + [f"jump {many}"])).rows[-1], ("jump", (many,)))
            self.refused("\n".join(lines + [f"jump {many + 1}"]), many - 1)
            self.refused("\n".join([f"bell {many + 1}"] + lines + ["halt"]), 0)

    def test_forty_one_rows(self):
        self.refused("\n".join(["halt"] * 41), 40)
        self.refused("\n".join(["halt"] * 60), 40)
        self.refused("\n".join(["bell 0"] + ["halt"] * 41), 41)
        self.refused("\n".join(["halt"] * 40 + ["no row"]), 40)
        self.refused("\n".join(["halt"] * 39 + ["no row", "halt"]), 39)
        # The number of rows is that of the lines, whatever they are: so these numbers are none too great.
        self.refused("\n".join(["bell 45"] + ["jump 45"] * 45), 41)
        self.refused("\n".join(["jump 41"] * 40 + [""]), 40)
        self.refused("\n".join(["jump 42"] + ["halt"] * 40), 0)

    def test_the_first_bad_line(self):
        self.refused("halt\nno\nno\nbell", 1)
        self.refused("bell 9\nno", 0)
        self.refused("bell 2\nhalt\nno", 2)
        self.refused("no\nbell", 0)

    def test_without_marks(self):
        table = read_table("word 4 ; cells 4 ; depth 0 ; places a ; marks ; gate ; kind k ( q mark ) { next }")
        for text in ("k m", "k a", "k 0", "k ", "k None", "k"):
            refuses(self, lambda: read_program(table, text), BadLine, 0)


if __name__ == "__main__":
    unittest.main()
