"""Promises 3, 4 and 36 to 38: what a row does in a state."""

import random
import unittest

from rowsbeneath.above import State, end_given, need_single, row_done, state_of
from rowsbeneath.errors import NoRow, NoState
from rowsbeneath.tabletext import read_table
from tests.draws import some_row, some_state, some_table
from tests.helpers import ODD_THINGS, refuses
from tests.oracle_above import behind_end, behind_row

HEAD = "word 8 ; cells 5 ; depth 2 ; places a b ; marks m n ; gate m ; "


def table_with(body, fields="", head=HEAD):
    return read_table(head + "kind k ( " + fields + " ) { " + body + " }")


def behind(body, fields="", operands=(), head=HEAD, **state):
    """What is told behind a row of a kind with this body."""
    table = table_with(body, fields, head)
    return row_done(table, state_of(table, **state), ("k", operands)).told()


class Sets(unittest.TestCase):
    def lists(self, body, fields="", operands=(), **state):
        return behind(body, fields, operands, **state)[3:6]

    def test_each_sort(self):
        self.assertEqual(self.lists("set a = 7 ; set n = 9 ; set [ 3 ] = 255 ; next"),
                         ((7, 0), (0, 1), (0, 0, 0, 255, 0)))
        self.assertEqual(self.lists("next", places=[1, 2], marks=[0, 1], cells=[1, 2, 3, 4, 5]),
                         ((1, 2), (0, 1), (1, 2, 3, 4, 5)))

    def test_each_expression(self):
        state = {"places": [6, 200], "marks": [0, 1], "cells": [10, 20, 30, 40, 50]}
        for e, word in (("0", 0), ("255", 255), ("a", 6), ("b", 200), ("m", 0), ("n", 1), ("[ 3 ]", 40), ("[ a ]", 20),
                        ("[ b ]", 10), ("[ [ 1 ] ]", 10), ("[ n ]", 20), ("( a + b )", 206), ("( a - b )", 62),
                        ("( b << 1 )", 144), ("( ( b + b ) >> 8 )", 144), ("( a < b )", 1), ("( a = b )", 0),
                        ("( ( a & 3 ) | ( b ^ 1 ) )", 203), ("[ ( [ a ] + 4 ) ]", 50)):
            self.assertEqual(self.lists("set a = " + e + " ; next", **state)[0], (word, 200), e)

    def test_fields(self):
        fields = "p place , q mark , x number"
        self.assertEqual(self.lists("set p = x ; set q = p ; set [ x ] = q ; next", fields, (1, 0, 9), places=[3, 4]),
                         ((3, 9), (1, 0), (0, 0, 0, 0, 0)))
        self.assertEqual(self.lists("set p = q ; set q = x ; set [ p ] = x ; next", fields, (0, 1, 0), places=[3, 4],
                                    marks=[0, 1], cells=[1, 2, 3, 4, 5]),
                         ((1, 4), (0, 0), (1, 2, 3, 0, 5)))

    def test_marks_become_truths(self):
        for word, mark in ((0, 0), (1, 1), (2, 1), (255, 1), (128, 1)):
            self.assertEqual(self.lists(f"set m = {word} ; set n = b ; next", places=[0, word])[1], (mark, mark))

    def test_the_later_one_holds(self):
        self.assertEqual(self.lists("set a = 1 ; set m = 1 ; set a = 2 ; set m = 0 ; next")[:2], ((2, 0), (0, 0)))
        self.assertEqual(self.lists("set m = 0 ; set a = 2 ; set m = 1 ; set a = 1 ; next")[:2], ((1, 0), (1, 0)))
        # Two operands may tell one place: also then the later set holds.
        fields = "p place , q place"
        self.assertEqual(self.lists("set p = 1 ; set q = 2 ; next", fields, (1, 1))[0], (0, 2))
        self.assertEqual(self.lists("set q = 1 ; set p = 2 ; next", fields, (1, 1))[0], (0, 2))
        self.assertEqual(self.lists("set a = 5 ; set p = 6 ; next", fields, (0, 1))[0], (6, 0))
        self.assertEqual(self.lists("set p = 6 ; set a = 5 ; next", fields, (0, 1))[0], (5, 0))

    def test_reckoned_by_what_stood_ahead(self):
        self.assertEqual(self.lists("set a = b ; set b = a ; next", places=[1, 2])[0], (2, 1))
        self.assertEqual(self.lists("set m = n ; set n = m ; next", marks=[0, 1])[1], (1, 0))
        self.assertEqual(self.lists("set a = 3 ; set [ a ] = 9 ; next", places=[1, 0]), ((3, 0), (0, 0), (0, 9, 0, 0, 0)))
        self.assertEqual(self.lists("set [ 1 ] = 9 ; set a = [ 1 ] ; next", cells=[0, 4, 0, 0, 0]),
                         ((4, 0), (0, 0), (0, 9, 0, 0, 0)))
        self.assertEqual(self.lists("set a = 1 ; set a = ( a + 4 ) ; next", places=[10, 0])[0], (14, 0))
        self.assertEqual(self.lists("set m = 1 ; set a = m ; next")[0], (0, 0))
        self.assertEqual(self.lists("set p = q ; set q = p ; set a = p ; next", "p place , q place", (0, 1), places=[1, 2])[0],
                         (1, 1))

    def test_addresses_beyond_the_cells(self):
        for address, cell in ((4, 4), (5, 0), (6, 1), (255, 0), (254, 4), (250, 0)):
            cells = [11, 12, 13, 14, 15]
            self.assertEqual(self.lists(f"set a = [ {address} ] ; next", cells=cells)[0][0], cells[cell])
            self.assertEqual(self.lists("set a = [ x ] ; next", "x number", (address,), cells=cells)[0][0], cells[cell])
            changed = cells[:cell] + [99] + cells[cell + 1:]
            self.assertEqual(self.lists(f"set [ {address} ] = 99 ; next", cells=cells)[2], tuple(changed))
            self.assertEqual(self.lists("set [ b ] = 99 ; next", cells=cells, places=[0, address])[2], tuple(changed))


class Tests(unittest.TestCase):
    def leads_to_yes(self, test, fields="", operands=(), **state):
        told = behind("if " + test + " { stop } else { fault no }", fields, operands, **state)
        self.assertIn(told[:2], (("stop", None), ("fault", "no")))
        return told[0] == "stop"

    def test_each_test(self):
        for word in (0, 1, 127, 128, 255):
            self.assertIs(self.leads_to_yes("b", places=[255, word]), word != 0)
            self.assertIs(self.leads_to_yes("top b", places=[255, word]), word >= 128)
            self.assertIs(self.leads_to_yes("p", "x number , p place", (7, 1), places=[0, word]), word != 0)
            self.assertIs(self.leads_to_yes("top p", "x number , p place", (7, 0), places=[word, 0]), word >= 128)
        for mark in (0, 1):
            self.assertIs(self.leads_to_yes("n", marks=[1 - mark, mark]), mark == 1)
            self.assertIs(self.leads_to_yes("q", "q mark", (0,), marks=[mark, 1 - mark]), mark == 1)

    def test_choices_within_choices(self):
        body = ("if a { if top a { if m { set b = 7 ; next } else { set b = 6 ; next } } else { if m { set b = 5 ; next } "
                "else { set b = 4 ; next } } } else { if n { if m { set b = 3 ; next } else { set b = 2 ; next } } "
                "else { set b = 1 ; next } }")
        for places, marks, b in (([255, 9], [1, 0], 7), ([128, 9], [0, 1], 6), ([1, 9], [1, 1], 5), ([127, 9], [0, 0], 4),
                                 ([0, 9], [1, 1], 3), ([0, 9], [0, 1], 2), ([0, 9], [1, 0], 1), ([0, 9], [0, 0], 1)):
            self.assertEqual(behind(body, places=places, marks=marks)[3], (places[0], b))

    def test_tests_are_reckoned_ahead(self):
        body = "if a { set a = 0 ; stop } else { set a = 1 ; fault no }"
        self.assertEqual(behind(body, places=[1, 0])[:4], ("stop", None, 0, (0, 0)))
        self.assertEqual(behind(body, places=[0, 0])[:4], ("fault", "no", 0, (1, 0)))


class Ends(unittest.TestCase):
    def short(self, told):
        return told[:3] + told[6:]

    def test_each_end(self):
        fields, operands = "x number , r row , s row", (0, 20, 30)
        for end, pile, wanted in (
            ("next", [1, 2], ("on", None, 6, (1, 2))), ("go r", [1, 2], ("on", None, 20, (1, 2))),
            ("go s", [], ("on", None, 30, ())), ("call r", [], ("on", None, 20, (6,))),
            ("call s", [1], ("on", None, 30, (1, 6))), ("call s", [1, 2], ("fault", "deep", 5, (1, 2))),
            ("back", [1, 2], ("on", None, 2, (1,))), ("back", [999], ("on", None, 999, ())),
            ("back", [], ("fault", "bare", 5, ())), ("stop", [1], ("stop", None, 5, (1,))),
            ("fault odd", [1], ("fault", "odd", 5, (1,))), ("fault a", [], ("fault", "a", 5, ())),
        ):
            self.assertEqual(self.short(behind(end, fields, operands, at=5, pile=pile)), wanted)
            told = behind("set a = 3 ; set m = 1 ; set [ 0 ] = 4 ; " + end, fields, operands, at=5, pile=pile)
            self.assertEqual((self.short(told), told[3:6]), (wanted, ((3, 0), (1, 0), (4, 0, 0, 0, 0))))

    def test_depth_nought(self):
        head = HEAD.replace("depth 2", "depth 0")
        self.assertEqual(self.short(behind("call r", "r row", (3,), head)), ("fault", "deep", 0, ()))
        self.assertEqual(self.short(behind("back", "r row", (3,), head)), ("fault", "bare", 0, ()))

    def test_a_call_and_a_back_one_behind_the_other(self):
        table = read_table(HEAD + "kind sub ( r row ) { call r } kind ret ( ) { back }")
        state = row_done(table, state_of(table, 8), ("sub", (40,)))
        self.assertEqual(self.short(state.told()), ("on", None, 40, (9,)))
        state = row_done(table, state, ("sub", (50,)))
        self.assertEqual(self.short(state.told()), ("on", None, 50, (9, 41)))
        self.assertEqual(self.short(row_done(table, state, ("sub", (60,))).told()), ("fault", "deep", 50, (9, 41)))
        state = row_done(table, state, ("ret", ()))
        self.assertEqual(self.short(state.told()), ("on", None, 41, (9,)))
        state = row_done(table, state, ("ret", ()))
        self.assertEqual(self.short(state.told()), ("on", None, 9, ()))
        self.assertEqual(self.short(row_done(table, state, ("ret", ())).told()), ("fault", "bare", 9, ()))

    def test_the_highest_rows(self):
        table = read_table(HEAD + "kind k ( ) { next } kind sub ( r row ) { call r }")
        state = row_done(table, state_of(table, 999), ("k", ()))
        self.assertEqual(state.at, 1000)
        self.assertEqual(row_done(table, state, ("k", ())).at, 1001)
        self.assertEqual(self.short(row_done(table, state, ("sub", (999,))).told()), ("on", None, 999, (1001,)))

    def test_an_end_alone(self):
        table = table_with("next")
        for end, operands, pile, wanted in (
            (("next",), (), [4], ("on", None, 8, (4,))), (("go", 1), (3, 5), [], ("on", None, 5, ())),
            (("call", 0), (3,), [4], ("on", None, 3, (4, 8))), (("call", 2), (0, 0, 999), [4, 4], ("fault", "deep", 7, (4, 4))),
            (("back",), (1, 2), [4, 6], ("on", None, 6, (4,))), (("back",), (), [], ("fault", "bare", 7, ())),
            (("stop",), (), [4], ("stop", None, 7, (4,))), (("fault", "odd"), (1,), [], ("fault", "odd", 7, ())),
        ):
            state = state_of(table, 7, [1, 2], [0, 1], [1, 2, 3, 4, 5], pile)
            lists = [state.places, state.marks, state.cells, state.pile]
            self.assertIsNone(end_given(table, state, end, operands))
            self.assertEqual(self.short(state.told()), wanted)
            self.assertEqual(state.told()[3:6], ((1, 2), (0, 1), (1, 2, 3, 4, 5)))
            self.assertEqual(behind_end(table, state_of(table, 7, pile=pile).told(), end, operands)[:3], state.told()[:3])
            for has, had in zip([state.places, state.marks, state.cells, state.pile], lists):
                self.assertIs(has, had)

    def test_ends_one_behind_the_other(self):
        table = table_with("next")
        state = state_of(table, 999)
        end_given(table, state, ("call", 0), (1000,))
        end_given(table, state, ("next",), ())
        end_given(table, state, ("call", 0), (5,))
        self.assertEqual(self.short(state.told()), ("on", None, 5, (1000, 1002)))
        end_given(table, state, ("back",), ())
        end_given(table, state, ("back",), ())
        self.assertEqual(self.short(state.told()), ("on", None, 1000, ()))


class OneRow(unittest.TestCase):
    TABLE = read_table(HEAD + "kind k ( r row , p place ) { set p = 1 ; set m = 1 ; set [ 0 ] = 1 ; call r } kind h ( ) { stop }")

    def test_the_state_handed_in_stays(self):
        lists = ([5, 6], [0, 1], [1, 2, 3, 4, 5], [8])
        state = state_of(self.TABLE, 3, *lists)
        ahead = state.told()
        new = row_done(self.TABLE, state, ("k", (4, 1)))
        self.assertIsInstance(new, State)
        self.assertIsNot(new, state)
        self.assertEqual(state.told(), ahead)
        self.assertEqual(new.told(), ("on", None, 4, (5, 1), (1, 1), (1, 2, 3, 4, 5), (8, 4)))
        for name in ("places", "marks", "cells", "pile"):
            self.assertIsNot(vars(new)[name], vars(state)[name])
        new.cells[0] = 77
        new.pile.append(7)
        self.assertEqual(state.told(), ahead)
        self.assertEqual(row_done(self.TABLE, state, ("k", (4, 1))).told()[5:], ((1, 2, 3, 4, 5), (8, 4)))

    def test_what_is_no_row(self):
        state = state_of(self.TABLE)
        ended = row_done(self.TABLE, state, ("h", ()))
        bad = ODD_THINGS + (("h", (0,)), ("h", []), ["h", ()], ("k", (0,)), ("k", (1000, 0)), ("k", (0, 2)), ("k", (-1, 0)),
                            ("k", (True, 0)), ("k", [0, 0]), ("x", ()), state, self.TABLE)
        for thing in bad:
            for handed in (state, ended):
                refuses(self, lambda: row_done(self.TABLE, handed, thing), NoRow, thing)
                refuses(self, lambda: need_single(self.TABLE, handed, thing), NoRow, thing)

    def test_numbers_of_rows(self):
        for number in (0, 1, 40, 41, 999):
            self.assertEqual(row_done(self.TABLE, state_of(self.TABLE), ("k", (number, 0))).at, number)
            self.assertIsNone(need_single(self.TABLE, state_of(self.TABLE), ("k", (number, 0))))

    def test_states_that_are_not_on(self):
        table = read_table(HEAD + "kind s ( ) { stop } kind f ( ) { fault odd } kind b ( ) { back } kind n ( ) { next }")
        for kind in ("s", "f", "b"):
            ended = row_done(table, state_of(table), (kind, ()))
            for row in (("n", ()), (kind, ())):
                refuses(self, lambda: row_done(table, ended, row), NoState, ended)
                refuses(self, lambda: need_single(table, ended, row), NoState, ended)
        over = state_of(table)
        over.word = "end"
        refuses(self, lambda: row_done(table, over, ("n", ())), NoState, over)
        self.assertIsNone(need_single(table, state_of(table), ("n", ())))

    def test_drawn_rows(self):
        source = random.Random(38)
        for _ in range(250):
            table = some_table(source)
            for _ in range(12):
                state, row = some_state(source, table), some_row(source, table)
                ahead = state.told()
                self.assertEqual(row_done(table, state, row).told(), behind_row(table, ahead, row))
                self.assertEqual(state.told(), ahead)


if __name__ == "__main__":
    unittest.main()
