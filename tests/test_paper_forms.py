"""Promises 81 and 82: what a paper is, of any thing, and what the checker is asked."""

import copy
import unittest

from rowsbeneath.checker import lets_by
from rowsbeneath.errors import NoKind
from rowsbeneath.laying import made_of
from rowsbeneath.little import little_of
from rowsbeneath.papers import paper_of
from rowsbeneath.tabletext import read_table
from tests.helpers import ODD_THINGS, refuses

TABLE = read_table("""word 8 ; cells 5 ; depth 1 ; places a b ; marks m ; gate ;
kind k ( p place , x number ) { if a { set b = ( p + x ) ; next } else { set m = [ x ] ; stop } }
kind none ( ) { next }""")
NONE = little_of(((), ("done", ("next",))))
A = ("place", ("is", 0))
# To an entry that knows a test both ways no row comes: so of it nothing but its form is asked.
BOTH = ((A, True), (A, False))


def by_form(entry, entries=()):
    """Whether a paper is let by that has this thing as an entry of which its form alone is asked."""
    paper = [(0, (), (), (), ()), entry] + list(entries)
    return lets_by(TABLE, "none", [NONE], 2, 0, paper)


def with_known(*pairs):
    return by_form((0, BOTH + pairs, (), (), ()))


def with_inner(*pairs):
    return by_form((0, BOTH, pairs, (), ()))


def with_puts(*puts):
    return by_form((0, BOTH, (), puts, ()))


def with_term(term):
    """Whether a thing is let by as a term: in inner, in puts and in both parts of a cell's put, each alone."""
    answers = {with_inner((0, term)), with_puts(("place", ("is", 0), term)), with_puts(("mark", ("by", 1), term)),
               with_puts(("cell", term, ("number", 0))), with_puts(("cell", ("number", 0), term))}
    assert len(answers) == 1, term
    return answers.pop()


class Papers(unittest.TestCase):
    def test_things_of_all_kinds(self):
        for thing in ODD_THINGS + ("paper", 7, {0: (0, (), (), (), ())}, [None], [()], [[]], ["abcde"], TABLE, NONE):
            self.assertIs(lets_by(TABLE, "none", [NONE], 2, 0, thing), False, thing)
            self.assertIs(lets_by(TABLE, "none", [NONE], 2, 0, [(0, (), (), (), ()), thing]), False, thing)
            self.assertIs(lets_by(TABLE, "none", [NONE], 2, 0, [thing, (0, (), (), (), ())]), False, thing)
        self.assertIs(lets_by(TABLE, "none", [NONE], 2, 0, ((0, (), (), (), ()),)), False)

    def test_how_many_entries(self):
        entry = (0, (), (), (), ())
        for many, told in ((0, False), (1, True), (2, True), (999, True), (1000, True), (1001, False)):
            self.assertIs(lets_by(TABLE, "none", [NONE], 2, 0, [entry] * many), told, many)

    def test_an_entrys_parts(self):
        entry = (0, BOTH, (), (), ())
        self.assertTrue(by_form(entry))
        self.assertFalse(by_form(list(entry)))
        self.assertFalse(by_form(entry[:4]))
        self.assertFalse(by_form(entry + ((),)))
        for at in range(1, 5):
            for thing in (None, [], "", 0, {}, True):
                self.assertFalse(by_form(entry[:at] + (thing,) + entry[at + 1:]), (at, thing))
        self.assertFalse(by_form((0, list(BOTH), (), (), ())))

    def test_addresses(self):
        for address, told in ((0, True), (399, True), (400, False), (-1, False), (True, False), (None, False), ("0", False),
                              ((), False), (10 ** 29, False)):
            self.assertIs(by_form((address, BOTH, (), (), ())), told, address)

    def test_known(self):
        b = ("place", ("is", 1))
        self.assertTrue(with_known((b, True)))
        self.assertTrue(with_known((b, True), (b, False)))
        self.assertFalse(with_known((b, True), (b, True)))
        self.assertFalse(with_known((A, True)))
        self.assertFalse(with_known((b, True), (("top", ("is", 1)), True), (b, True)))
        for truth in (0, 1, None, "True", (), 2):
            self.assertFalse(with_known((b, truth)), truth)
        for pair in ((b,), (b, True, True), [b, True], b, None, "ab", ()):
            self.assertFalse(with_known(pair), pair)

    def test_tests(self):
        for sort in ("place", "mark", "top"):
            for sel, told in ((("is", 3), True), (("is", 4), False), (("by", 2), True), (("by", 3), False), (("is", -1), False),
                              (("is", True), False), (("at", 0), False), (["is", 0], False), (("is",), False),
                              (("is", 1, 1), False), (None, False), (0, False)):
                self.assertIs(with_known(((sort, sel), True)), told, (sort, sel))
        for test in (("cell", ("number", 0)), ("number", 0), ("field", 0), ("some", ("is", 1)), ("place",), ["place", ("is", 1)],
                     ("place", ("is", 1), 0), None, "place", 5, (None, ("is", 1)), ((), ("is", 1)), ("+", A, A)):
            self.assertFalse(with_known((test, True)), test)

    def test_inner(self):
        n = ("number", 0)
        self.assertTrue(with_inner((0, n), (3, n), (7, n)))
        self.assertTrue(with_inner(*[(r, n) for r in range(8)]))
        for pairs in (((3, n), (0, n)), ((3, n), (3, n)), ((0, n), (3, n), (2, n)), ((0, n), (0, A)), ((8, n),), ((-1, n),),
                      ((True, n),), ((0, n), (True, n)), ((None, n),), (("0", n),), ((0, n, n),), ((0,),), ([0, n],), (n,),
                      (None,), ((0, None),), ((0, 5),)):
            self.assertFalse(with_inner(*pairs), pairs)

    def test_terms(self):
        for term, told in (
            (("number", 0), True), (("number", 2 ** 24 - 1), True), (("number", 2 ** 24), False), (("number", -1), False),
            (("number", True), False), (("number", None), False), (("number", "0"), False), (("field", 0), True),
            (("field", 2), True), (("field", 3), False), (("field", False), False), (("place", ("is", 3)), True),
            (("place", ("is", 4)), False), (("place", ("by", 2)), True), (("place", ("by", 3)), False), (("mark", ("is", 3)), True),
            (("mark", ("by", 3)), False), (("place", 0), False), (("top", ("is", 0)), False), (("in", 0), False), (("in", 9), False),
            (("cell", A), True), (("cell", 0), False), (("cell",), False), (("cell", A, A), False), (("cell", ("in", 0)), False),
            (("+", A), False), (("+", A, A, A), False), (("**", A, A), False), (("+", A, None), False), (("+", 3, A), False),
            (["number", 0], False), (("number",), False), (("number", 0, 0), False), ((), False), (None, False), ("ab", False),
            (0, False), ({}, False), (((), ()), False), (("place", ["is", 0]), False), (("+", ("in", 0), A), False),
        ):
            self.assertIs(with_term(term), told, term)
        for op in ("+", "-", "&", "|", "^", "<<", ">>", "<", "="):
            self.assertTrue(with_term((op, A, ("field", 1))))

    def test_how_deep_terms_are(self):
        for first in (("number", 5), ("field", 1), A, ("mark", ("is", 0))):
            for wrap in (lambda e: ("cell", e), lambda e: ("+", e, A), lambda e: ("<", A, e), lambda e: ("-", e, e)):
                term = first
                for deep in range(1, 9):
                    self.assertIs(with_term(term), deep <= 4, (deep, term))
                    term = wrap(term)
        for _ in range(100000):
            term = ("cell", term)
        paper = [(0, (), (), (), ()), (0, BOTH, ((0, term),), (), ())]
        self.assertFalse(lets_by(TABLE, "none", [NONE], 2, 0, paper))

    def test_puts(self):
        n = ("number", 0)
        one, mark, cell = ("place", ("is", 3), n), ("mark", ("by", 2), A), ("cell", A, n)
        self.assertTrue(with_puts(one, mark, cell, one))
        self.assertTrue(with_puts(cell, cell))
        self.assertFalse(with_puts(one, one, one, one, one))
        for put in (("place", ("is", 4), n), ("mark", ("by", 3), n), ("place", n, n), ("cell", ("is", 0), n), ("top", ("is", 0), n),
                    ("place", ("is", 0)), ("place", ("is", 0), n, n), ["place", ("is", 0), n], None, (), "abc", ("cell", n),
                    ("put", ("is", 0), n), ("place", ("is", 0), 0), ("cell", 0, n)):
            self.assertFalse(with_puts(put), put)

    def test_nexts(self):
        for nexts in ((2,), (0,), (2, 2), (-1,), (None,), (True,), ("2",), [], [2], {}, None, "", 2, (3,), (400,), ((),)):
            self.assertFalse(by_form((0, BOTH, (), (), nexts), [(0, BOTH, (), (), ())]), nexts)
        on = little_of(((), ("on", 1)))
        for nexts, told in (((1,), True), ([1], False), ((True,), False), ((1, 1), False), ((2,), False), ((0,), False), ((), False),
                            ((-1,), False), (1, False), (None, False)):
            paper = [(0, (), (), (), nexts), (1, (), (), (), ())]
            self.assertIs(lets_by(TABLE, "none", [on, NONE], 2, 0, paper), told, nexts)


class Asked(unittest.TestCase):
    def test_the_first_entry(self):
        first = (0, (), (), (), ())
        self.assertTrue(lets_by(TABLE, "none", [NONE, NONE], 2, 0, [first]))
        self.assertTrue(lets_by(TABLE, "none", [NONE, NONE], 2, 1, [(1,) + first[1:]]))
        self.assertFalse(lets_by(TABLE, "none", [NONE, NONE], 2, 1, [first]))
        self.assertFalse(lets_by(TABLE, "none", [NONE, NONE], 2, 0, [(1,) + first[1:]]))
        self.assertFalse(lets_by(TABLE, "none", [NONE, NONE], 2, 0, [(1,) + first[1:], first]))
        for entry in (2, 399, 400, 10 ** 29):
            self.assertFalse(lets_by(TABLE, "none", [NONE, NONE], 2, entry, [first]))
        self.assertFalse(lets_by(TABLE, "none", [NONE], 2, 0, [(0, ((A, True),), (), (), ())]))
        self.assertFalse(lets_by(TABLE, "none", [NONE], 2, 0, [(0, (), ((0, A),), (), ())]))
        self.assertFalse(lets_by(TABLE, "none", [NONE], 2, 0, [(0, (), (), (("place", ("is", 0), A),), ())]))
        self.assertFalse(lets_by(TABLE, "none", [NONE], 2, 0, [(0, BOTH, (), (), ())]))

    def test_what_is_no_kind(self):
        for thing in ODD_THINGS + ("nones", "K", 0, ("k",)):
            refuses(self, lambda: lets_by(TABLE, thing, [NONE], 2, 0, [(0, (), (), (), ())]), NoKind, thing)
            refuses(self, lambda: lets_by(TABLE, thing, [], 2, 0, None), NoKind, thing)

    def test_what_is_handed_in_stays(self):
        made = made_of(TABLE, 3, 20)
        for kind in TABLE.kinds:
            paper, room = paper_of(made, kind), made.rows_laid()
            kept, laid = copy.deepcopy(paper), list(room)
            for _ in range(2):
                self.assertIs(lets_by(TABLE, kind, room, 3, made.entry(kind), paper), True)
            self.assertEqual(paper, kept)
            self.assertEqual(room, laid)
            self.assertEqual(made.rows_laid(), laid)


if __name__ == "__main__":
    unittest.main()
