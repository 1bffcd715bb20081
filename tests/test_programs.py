"""Promises 31 and 32: rows, programs, and tables of one shape."""

import unittest

from rowsbeneath.errors import NoRow, RowsError
from rowsbeneath.programs import Program, is_row, program_of, same_shape
from rowsbeneath.tabletext import read_table
from tests.helpers import ODD_THINGS, refuses

HEAD = "word 5 ; cells 9 ; depth 2 ; places a b c ; marks m n ; gate m ;"
KINDS = """
kind four ( p place , q mark , k number ) { set p = k ; set q = 1 ; next }
kind jump ( r row ) { go r }
kind halt ( ) { stop }
"""
TABLE = read_table(HEAD + KINDS)
UNMARKED = read_table("word 4 ; cells 4 ; depth 0 ; places a ; marks ; gate ; kind k ( q mark ) { next } kind h ( ) { stop }")
HALT = ("halt", ())

NO_ROWS = ODD_THINGS + (
    "halt", ("halt",), ("halt", (), ()), ["halt", ()], ("halt", []), ("halt", None), ("halt", 0), ("Halt", ()), (HALT, ()),
    ("halt", (0,)), ("jump", ()), ("jump", (0, 0)), ("jump", [0]), ("jump", 0), ("jump", (True,)), ("jump", (False,)),
    ("jump", (None,)), ("jump", ("0",)), ("jump", ((0,),)), ("jump", (-1,)), ("jump", (10 ** 29,)), ("jump", {0: 0}),
    ("four", (0, 0)), ("four", (0, 0, 0, 0)), ("four", [0, 0, 0]), ("four", (3, 0, 0)), ("four", (-1, 0, 0)),
    ("four", (0, 2, 0)), ("four", (0, -1, 0)), ("four", (0, 0, 32)), ("four", (0, 0, -1)), ("four", (True, 0, 0)),
    ("four", (0, True, 0)), ("four", (0, 0, True)), ("four", ("a", 0, 0)), ("four", (0, "m", 0)), ("four", (None, 0, 0)),
    (["halt"], ()), ({}, ()), (None, ()), (0, ()), (True, ()), TABLE, (TABLE, ()), Program((), None), RowsError("halt"),
)


class Rows(unittest.TestCase):
    def test_operands_at_their_bounds(self):
        for operands in ((0, 0, 0), (2, 1, 31), (1, 0, 16), (0, 1, 31), (2, 0, 0)):
            self.assertIs(is_row(TABLE, ("four", operands), 0), True)
        for at, beyond in ((0, 3), (1, 2), (2, 32)):
            for number in (beyond, -1, 10 ** 29):
                operands = [0, 0, 0]
                operands[at] = number
                self.assertIs(is_row(TABLE, ("four", tuple(operands)), 999), False)

    def test_numbers_of_rows(self):
        for rows in (0, 1, 7, 40, 999):
            self.assertIs(is_row(TABLE, ("jump", (0,)), rows), True)
            self.assertIs(is_row(TABLE, ("jump", (rows,)), rows), True)
            self.assertIs(is_row(TABLE, ("jump", (rows + 1,)), rows), False)
            self.assertIs(is_row(TABLE, ("jump", (-1,)), rows), False)

    def test_no_rows(self):
        self.assertIs(is_row(TABLE, HALT, 0), True)
        for thing in NO_ROWS:
            self.assertIs(is_row(TABLE, thing, 40), False, thing)

    def test_without_marks_no_number_is_one(self):
        for number in (-1, 0, 1):
            self.assertIs(is_row(UNMARKED, ("k", (number,)), 5), False)
        self.assertIs(is_row(UNMARKED, ("h", ()), 5), True)

    def test_the_widest_word(self):
        for width in (4, 24):
            table = read_table(f"word {width} ; cells 4 ; depth 0 ; places a ; marks ; gate ; kind k ( k number ) {{ stop }}")
            self.assertIs(is_row(table, ("k", (2 ** width - 1,)), 0), True)
            self.assertIs(is_row(table, ("k", (2 ** width,)), 0), False)


class Programs(unittest.TestCase):
    def test_of_a_list_and_of_a_tuple(self):
        rows = [("four", (2, 1, 31)), ("jump", (3,)), HALT]
        for handed in (rows, tuple(rows)):
            program = program_of(TABLE, handed, 3)
            self.assertIsInstance(program, Program)
            self.assertEqual((program.rows, program.bell), (tuple(rows), 3))
            self.assertIs(type(program.rows), tuple)
        self.assertIsNone(program_of(TABLE, rows).bell)
        self.assertIsNone(program_of(TABLE, rows, None).bell)
        self.assertEqual(program_of(TABLE, rows, bell=0).bell, 0)

    def test_without_rows(self):
        for handed in ([], ()):
            self.assertEqual((program_of(TABLE, handed).rows, program_of(TABLE, handed, 0).bell), ((), 0))
            refuses(self, lambda: program_of(TABLE, handed, 1), NoRow, 1)

    def test_what_is_changed_later(self):
        rows = [HALT, ("jump", (1,))]
        program = program_of(TABLE, rows)
        rows[0] = None
        rows.append(HALT)
        self.assertEqual(program.rows, (HALT, ("jump", (1,))))

    def test_what_is_no_list_or_tuple(self):
        for thing in (None, True, 0, 3, "", "halt", {}, {0: HALT}, TABLE, program_of(TABLE, [HALT]), RowsError("x")):
            refuses(self, lambda: program_of(TABLE, thing), NoRow, thing)
            refuses(self, lambda: program_of(TABLE, thing, "no bell row"), NoRow, thing)

    def test_the_first_thing_that_is_no_row(self):
        for thing in NO_ROWS:
            for rows in ([thing], [HALT, thing, HALT], (HALT, HALT, thing), [HALT, thing, "later"]):
                refuses(self, lambda: program_of(TABLE, rows, -1), NoRow, thing)

    def test_numbers_of_rows(self):
        for many in (1, 2, 5, 40):
            rows = [HALT] * (many - 1) + [("jump", (many,))]
            self.assertEqual(program_of(TABLE, rows, many).rows[-1], ("jump", (many,)))
            beyond = ("jump", (many + 1,))
            refuses(self, lambda: program_of(TABLE, rows[:-1] + [beyond]), NoRow, beyond)
            refuses(self, lambda: program_of(TABLE, rows, many + 1), NoRow, many + 1)

    def test_forty_rows_and_one_more(self):
        self.assertEqual(program_of(TABLE, [HALT] * 40).rows, (HALT,) * 40)
        last = ("jump", (0,))
        refuses(self, lambda: program_of(TABLE, [HALT] * 40 + [last]), NoRow, last)
        refuses(self, lambda: program_of(TABLE, [HALT] * 40 + [last, None]), NoRow, last)
        refuses(self, lambda: program_of(TABLE, [HALT] * 40 + [last, None], -1), NoRow, last)
        ahead = ("jump", (-1,))
        refuses(self, lambda: program_of(TABLE, [HALT] * 39 + [ahead, last]), NoRow, ahead)
        # Numbers of rows go to how many things there are, also where these are too many.
        refuses(self, lambda: program_of(TABLE, [("jump", (41,))] * 40 + [last]), NoRow, last)
        beyond = ("jump", (42,))
        refuses(self, lambda: program_of(TABLE, [beyond] + [HALT] * 40), NoRow, beyond)

    def test_bell_rows(self):
        rows = [HALT, HALT]
        for bell in (0, 1, 2):
            self.assertEqual(program_of(TABLE, rows, bell).bell, bell)
        for thing in (-1, 3, True, False, "0", "", (), [], [0], {}, 10 ** 29, HALT, TABLE):
            refuses(self, lambda: program_of(TABLE, rows, thing), NoRow, thing)


class Shapes(unittest.TestCase):
    def test_one_shape(self):
        self.assertIs(same_shape(TABLE, TABLE), True)
        self.assertIs(same_shape(TABLE, read_table(HEAD + KINDS)), True)
        for old, new in (("set p = k ;", ""), ("go r", "call r"), ("{ stop }", "{ if a { stop } else { fault x } }")):
            other = read_table(HEAD + KINDS.replace(old, new))
            self.assertNotEqual(other.told(), TABLE.told())
            self.assertIs(same_shape(TABLE, other), True)
            self.assertIs(same_shape(other, TABLE), True)

    def test_each_part_otherwise(self):
        for old, new in (
            ("word 5", "word 6"), ("cells 9", "cells 8"), ("depth 2", "depth 3"), ("places a b c", "places a b"),
            ("places a b c", "places a c b"), ("places a b c", "places a b c d"), ("marks m n", "marks n m"),
            ("marks m n", "marks m"), ("marks m n", "marks m n o"), ("gate m", "gate n"), ("gate m", "gate"),
            ("kind halt", "kind halts"), ("kind halt ( )", "kind halt ( r row )"), ("kind halt ( ) { stop }", ""),
            ("kind halt", "kind more ( ) { stop } kind halt"), ("jump ( r row ) { go r }", "jump ( s row ) { go s }"),
            ("k number ) { set p = k ;", "k place ) { set p = k ;"), ("q mark , k number", "k number , q mark"),
            (KINDS, "\n".join(reversed(KINDS.split("\n")))),
        ):
            other = read_table((HEAD + KINDS).replace(old, new))
            self.assertNotEqual(other.told(), TABLE.told())
            self.assertIs(same_shape(TABLE, other), False, new)
            self.assertIs(same_shape(other, TABLE), False, new)


if __name__ == "__main__":
    unittest.main()
