"""Promises 84 and 85: what follows where a paper is let by, and the told papers of made rooms."""

import random
import unittest

from rowsbeneath.above import row_done
from rowsbeneath.checker import lets_by
from rowsbeneath.errors import NoKind
from rowsbeneath.laying import made_of
from rowsbeneath.little import little_of, row_beneath
from rowsbeneath.papers import paper_of
from rowsbeneath.tabletext import read_table
from tests import oracle_papers
from tests.draws import some_made, some_row, some_state, some_word
from tests.helpers import ODD_THINGS, refuses
from tests.test_checker import shaken

HEAD = "word 8 ; cells 5 ; depth 1 ; places a b ; marks m ; gate ; "
A, B, M = ("place", ("is", 0)), ("place", ("is", 1)), ("mark", ("is", 0))
X = ("field", 0)


class ToldPapers(unittest.TestCase):
    def paper(self, body, many=3, fields="x number"):
        made = made_of(read_table(HEAD + f"kind k ( {fields} ) " + body), many, 50)
        told = paper_of(made, "k")
        self.assertEqual(told, oracle_papers.paper(made.room_told(), made.entry("k")))
        self.assertTrue(lets_by(made.table, "k", made.rows_laid(), many, made.entry("k"), told))
        return made, told

    def test_a_leaf_without_steps(self):
        self.assertEqual(self.paper("{ next }")[1], [(0, (), (), (), ())])

    def test_a_leaf(self):
        made, told = self.paper("{ set a = ( a + x ) ; set m = 1 ; next }")
        self.assertEqual(made.room_told()[:4], [
            ((("tell", ("is", 0), ("number", 1)),), ("done", ("next",))), ((("put", ("is", 0), ("in", 1)),), ("on", 0)),
            ((("two", 1, "+", ("in", 0), X),), ("on", 1)), ((("get", 0, ("is", 0)),), ("on", 2))])
        total = ("+", A, X)
        self.assertEqual(told, [
            (3, (), (), (), (1,)), (2, (), ((0, A),), (), (2,)), (1, (), ((0, A), (1, total)), (), (3,)),
            (0, (), ((0, A), (1, total)), (("place", ("is", 0), total),), ())])

    def test_choices_within_choices(self):
        made, told = self.paper("{ if a { if top b { next } else { stop } } else { if m { back } else { set b = a ; next } } }")
        yes, no = made.rows_laid()[made.entry("k")].on[2:]
        one, other = ((A, True),), ((A, False),)
        top = ("top", ("is", 1))
        self.assertEqual([entry[4] for entry in told], [(1, 4), (2, 3), (), (), (5, 6), (), (7,), ()])
        self.assertEqual(told[0], (made.entry("k"), (), (), (), (1, 4)))
        self.assertEqual(told[1], (yes, one, ((0, A),), (), (2, 3)))
        self.assertEqual(told[2][1:], (one + ((top, True),), ((0, B),), (), ()))
        self.assertEqual(told[3][1:], (one + ((top, False),), ((0, B),), (), ()))
        self.assertEqual(told[4], (no, other, ((0, A),), (), (5, 6)))
        self.assertEqual(told[5][1:], (other + ((M, True),), ((0, M),), (), ()))
        self.assertEqual(told[6][1:], (other + ((M, False),), ((0, M),), (), (7,)))
        self.assertEqual(told[7][1:], (other + ((M, False),), ((0, A),), (), ()))

    def test_a_test_that_comes_twice_on_a_way(self):
        made, told = self.paper("{ if a { if a { next } else { if a { stop } else { back } } } else { if b { if a { next } else { next } } "
                                "else { stop } } }")
        self.assertEqual([entry[4] for entry in told], [(1, 4), (2, 3), (), (), (5, 8), (6, 7), (), (), ()])
        self.assertEqual(told[2][1], ((A, True),))
        self.assertEqual(told[3][1], ((A, True), (A, False)))
        self.assertEqual(made.rows_laid()[told[3][0]].on[0], "some")
        self.assertEqual(told[6][1], ((A, False), (B, True), (A, True)))
        self.assertEqual(told[7][1], ((A, False), (B, True)))

    def test_two_ways_that_come_to_one_address(self):
        made, told = self.paper("{ if a { set b = 1 ; next } else { set b = 1 ; next } }")
        self.assertEqual(told[1][0], told[2][0])
        self.assertEqual([entry[1] for entry in told], [(), ((A, True),), ((A, False),)])

    def test_kinds_that_have_little_rows_in_common(self):
        table = read_table(HEAD + "kind k ( ) { set a = 1 ; next } kind l ( ) { if b { set a = 1 ; next } else { stop } } "
                           "kind n ( ) { if b { set a = 1 ; next } else { stop } }")
        made = made_of(table, 2, 20)
        self.assertEqual(paper_of(made, "l"), paper_of(made, "n"))
        self.assertEqual(paper_of(made, "l")[1][0], paper_of(made, "k")[0][0])
        for kind in table.kinds:
            for other in table.kinds:
                answer = lets_by(table, kind, made.rows_laid(), 2, made.entry(kind), paper_of(made, other))
                self.assertIs(answer, {kind, other} in ({"k"}, {"l"}, {"n"}, {"l", "n"}))

    def test_drawn_rooms(self):
        source = random.Random(85)
        for _ in range(150):
            made = some_made(source)
            for kind in made.table.kinds:
                told = paper_of(made, kind)
                self.assertEqual(told, oracle_papers.paper(made.room_told(), made.entry(kind)))
                self.assertIs(lets_by(made.table, kind, made.rows_laid(), made.many, made.entry(kind), told), True)
                self.assertLessEqual(max(made.lengths(kind)), len(told))
                self.assertEqual(sorted(number for entry in told for number in entry[4]), list(range(1, len(told))))

    def test_the_greatest_paper(self):
        leaf = "b"
        for _ in range(3):
            leaf = f"( {leaf} + {leaf} )"
        leaf = "{ " + f"set [ {leaf} ] = {leaf} ; set a = {leaf} ; set b = {leaf} ; set m = {leaf} ; next " + "}"
        body = "{ if a " + "{ if b " + leaf + " else " + leaf + " } else { next } }"
        made = made_of(read_table(HEAD + "kind k ( ) " + body), 8, 400)
        told = paper_of(made, "k")
        self.assertTrue(lets_by(made.table, "k", made.rows_laid(), 8, made.entry("k"), told))
        self.assertGreater(len(told), 90)

    def test_told_anew_each_time(self):
        made = made_of(read_table(HEAD + "kind k ( ) { if a { set b = 1 ; next } else { stop } }"), 3, 50)
        told = paper_of(made, "k")
        kept = list(told)
        told.clear()
        self.assertEqual(paper_of(made, "k"), kept)
        self.assertEqual(paper_of(made_of(made.table, 3, 50), "k"), kept)

    def test_what_is_no_kind(self):
        made = made_of(read_table(HEAD + "kind k ( ) { next }"), 3, 50)
        for thing in ODD_THINGS + ("K", "kk", 0, ("k",)):
            refuses(self, lambda: paper_of(made, thing), NoKind, thing)


class LetBy(unittest.TestCase):
    def rows_do_what_the_kind_says(self, source, table, kind, room, many, entry, paper, rows):
        for _ in range(rows):
            state, row = some_state(source, table), some_row(source, table, kind=kind)
            inner = [some_word(source, table.width) for _ in range(many)]
            told = row_beneath(table, room, many, entry, state, row, 2000, source.choice([None, inner]))
            self.assertIsNotNone(told)
            self.assertEqual(told[0].told(), row_done(table, state, row).told())
            self.assertLessEqual(told[1], len(paper))

    def test_told_papers(self):
        source = random.Random(841)
        for _ in range(60):
            made = some_made(source)
            for kind in made.table.kinds:
                paper = paper_of(made, kind)
                self.rows_do_what_the_kind_says(source, made.table, kind, made.rows_laid(), made.many, made.entry(kind), paper, 5)

    def test_rooms_and_papers_changed_in_one_thing(self):
        source = random.Random(842)
        let_by = 0
        for _ in range(100):
            made = some_made(source, deep=3, choices=2, kinds=2)
            kind = source.choice(made.table.kinds)
            entry, room, paper = made.entry(kind), made.room_told(), paper_of(made, kind)
            for _ in range(20):
                other, shown = shaken(source, room, paper)
                if (other, shown) == (room, paper):
                    continue
                rows = [None if told is None else little_of(told) for told in other]
                if lets_by(made.table, kind, rows, made.many, entry, shown):
                    let_by += 1
                    self.rows_do_what_the_kind_says(source, made.table, kind, rows, made.many, entry, shown, 3)
        self.assertGreater(let_by, 60)


if __name__ == "__main__":
    unittest.main()
