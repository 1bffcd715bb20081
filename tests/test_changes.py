"""Promises 111 to 114: one kind of a made room changed, and holes."""

import random
import unittest

from rowsbeneath.above import row_done
from rowsbeneath.changes import changed, holes
from rowsbeneath.checker import lets_by
from rowsbeneath.errors import Crowded, NoChange, NoKind, NoRoom, RowsError, Unlike
from rowsbeneath.laying import Made, made_of
from rowsbeneath.little import row_beneath
from rowsbeneath.papers import paper_of
from rowsbeneath.tabletext import read_table
from tests import oracle_laying
from tests.draws import TableDrawing, some_row, some_state, with_a_kind_drawn_anew
from tests.helpers import ODD_THINGS, refusal_of, refuses

HEAD = "word 8 ; cells 5 ; depth 1 ; places a b ; marks m ; gate ; "
BODIES = {
    "one": "{ set a = ( a + 1 ) ; next }",
    "two": "{ if a { set b = ( a + 1 ) ; next } else { stop } }",
    "three": "{ set m = b ; set [ a ] = b ; next }",
}


def text(head=HEAD, fields="", order=("one", "two", "three"), **bodies):
    return head + " ".join(f"kind {name} ( {fields} ) " + {**BODIES, **bodies}[name] for name in order)


TABLE = read_table(text())
MADE = made_of(TABLE, 3, 30)
BIG = "( ( ( a + b ) + ( a + b ) ) + ( ( a + b ) + ( a + b ) ) )"


def table(**bodies):
    return read_table(text(**bodies))


def laid_for(made, kind):
    """The little rows to which rows of a kind can come, with their addresses."""
    return [(address, made.room_told()[address]) for address in made.addresses(kind)]


class Refusals(unittest.TestCase):
    def test_no_kind(self):
        other = read_table(text(HEAD.replace("depth 1", "depth 2")))
        for thing in ODD_THINGS + ("four", "One", ("one",), 0):
            refuses(self, lambda: changed(MADE, TABLE, thing), NoKind, thing)
            refuses(self, lambda: changed(MADE, other, thing), NoKind, thing)

    def test_a_kind_of_the_new_table_alone(self):
        other = read_table(text(order=("one", "two", "three", "four"), four="{ next }"))
        refuses(self, lambda: changed(MADE, other, "four"), NoKind, "four")
        refuses(self, lambda: changed(MADE, other, "one"), Unlike, "shape")

    def test_another_shape(self):
        for old, new in (("word 8", "word 9"), ("cells 5", "cells 6"), ("depth 1", "depth 0"), ("places a b", "places a b c"),
                         ("places a b", "places b a"), ("marks m", "marks m n"), ("gate", "gate m")):
            other = read_table(text(HEAD.replace(old, new), one="{ stop }"))
            for kind in TABLE.kinds:
                refuses(self, lambda: changed(MADE, other, kind), Unlike, "shape")
        for other in (read_table(text(fields="x number")), read_table(text(order=("two", "one", "three"))),
                      read_table(text(order=("one", "two"))), read_table(text(order=("one", "two", "four"), four="{ next }"))):
            refuses(self, lambda: changed(MADE, other, "one"), Unlike, "shape")
        with_fields = made_of(read_table(text(fields="x number , y row")), 3, 30)
        for fields in ("y number , x row", "x number", "x number , y number", "x mark , y row"):
            refuses(self, lambda: changed(with_fields, read_table(text(fields=fields)), "two"), Unlike, "shape")

    def test_another_kind_put_otherwise(self):
        for kind in TABLE.kinds:
            for other in TABLE.kinds:
                new = table(**{other: "{ back }"})
                if kind == other:
                    self.assertIsInstance(changed(MADE, new, kind), Made)
                else:
                    refuses(self, lambda: changed(MADE, new, kind), NoChange, other)
        all_new = table(one="{ back }", two="{ back }", three="{ back }")
        for kind, told in (("one", "two"), ("two", "one"), ("three", "one")):
            refuses(self, lambda: changed(MADE, all_new, kind), NoChange, told)
        # NoChange comes ahead of what the changed kind itself is refused for.
        refuses(self, lambda: changed(MADE, table(one="{ set a = " + BIG + " ; next }", three="{ back }"), "one"), NoChange, "three")

    def test_crowded(self):
        new = table(two="{ if a { set b = 1 ; next } else { if b { set a = " + BIG + " ; next } else { set a = a ; set [ " + BIG
                    + " ] = " + BIG + " ; next } } }")
        refuses(self, lambda: changed(MADE, new, "two"), Crowded, "two", 4)
        refuses(self, lambda: changed(made_of(TABLE, 4, 30), new, "two"), Crowded, "two", 5)
        self.assertIsInstance(changed(made_of(TABLE, 6, 80), new, "two"), Made)
        # Crowded comes ahead of NoRoom.
        refuses(self, lambda: changed(made_of(TABLE, 3, MADE.used()), new, "two"), Crowded, "two", 4)

    def test_a_size_that_is_just_enough(self):
        new = table(two="{ if a { set b = 1 ; set a = 2 ; set m = 3 ; next } else { if b { stop } else { back } } }")
        needed = made_of(new, 3, 100).used()
        self.assertGreater(needed, MADE.used())
        for lacking in range(needed - MADE.used() + 1):
            made = made_of(TABLE, 3, needed - lacking)
            if lacking:
                refuses(self, lambda: changed(made, new, "two"), NoRoom, "two", lacking)
            else:
                self.assertEqual(changed(made, new, "two").used(), needed)
                self.assertEqual(holes(changed(made, new, "two")), [])

    def test_the_first_room_stays(self):
        made = made_of(TABLE, 3, MADE.used())
        told = (made.room_told(), [made.entry(kind) for kind in TABLE.kinds], made.table.told(), made.used(), holes(made))
        for kind, new in (("two", table(two="{ back }")), ("two", table(two="{ set a = 1 ; set b = 1 ; set m = 1 ; back }")), ("four", TABLE),
                          ("one", table(one="{ set a = " + BIG + " ; next }")), ("one", table(two="{ next }"))):
            refusal_of(lambda: changed(made, new, kind))
            self.assertEqual((made.room_told(), [made.entry(kind) for kind in TABLE.kinds], made.table.told(), made.used(), holes(made)), told)


class Changed(unittest.TestCase):
    def test_values(self):
        new = table(two="{ back }")
        made = changed(MADE, new, "two")
        self.assertIs(made.table, new)
        self.assertEqual((made.many, made.size), (3, 30))
        self.assertEqual(len(made.rows_laid()), 30)

    def test_where_the_others_lie(self):
        for kind in TABLE.kinds:
            made = changed(MADE, table(**{kind: "{ set b = ( b - a ) ; back }"}), kind)
            for other in TABLE.kinds:
                if other != kind:
                    self.assertEqual(made.entry(other), MADE.entry(other))
                    self.assertEqual(laid_for(made, other), laid_for(MADE, other))
                    self.assertEqual(made.lengths(other), MADE.lengths(other))
                    self.assertEqual(paper_of(made, other), paper_of(MADE, other))
            stays = set(address for other in TABLE.kinds for address in made.addresses(other))
            self.assertEqual([address for address, row in enumerate(made.rows_laid()) if row is not None], sorted(stays))

    def test_little_rows_in_common_stay(self):
        both = read_table(HEAD + "kind one ( ) { set b = 1 ; next } kind two ( ) { if a { set b = 1 ; next } else { stop } }")
        made = made_of(both, 2, 9)
        new = read_table(HEAD + "kind one ( ) { set b = 2 ; next } kind two ( ) { if a { set b = 1 ; next } else { stop } }")
        told = changed(made, new, "one")
        self.assertEqual(laid_for(told, "two"), laid_for(made, "two"))
        self.assertEqual((made.used(), told.used()), (3, 4))
        again = changed(told, both, "one")
        self.assertEqual((again.used(), again.entry("one")), (3, made.entry("one")))
        gone = changed(made, read_table(HEAD + "kind one ( ) { set b = 1 ; next } kind two ( ) { next }"), "two")
        self.assertEqual((gone.used(), gone.entry("one"), gone.entry("two")), (2, 0, 1))

    def test_the_least_free_addresses(self):
        made = changed(MADE, table(one="{ stop }"), "one")
        self.assertEqual(made.entry("one"), MADE.rows_laid()[MADE.entry("two")].on[3])
        shorter = changed(MADE, table(one="{ back }"), "one")
        free = [address for address in MADE.addresses("one") if address not in MADE.addresses("two") + MADE.addresses("three")]
        self.assertEqual(shorter.entry("one"), free[0])
        self.assertEqual(holes(shorter), sorted(set(free[1:]) | set(holes(MADE))))

    def test_to_the_old_deed(self):
        for kind in TABLE.kinds:
            made = changed(MADE, TABLE, kind)
            self.assertEqual(made.used(), MADE.used())
            again = changed(changed(MADE, table(**{kind: "{ fault odd }"}), kind), TABLE, kind)
            self.assertEqual(again.used(), MADE.used())
            for other in TABLE.kinds:
                self.assertEqual(again.lengths(other), MADE.lengths(other))

    def test_a_table_with_one_kind(self):
        made = made_of(read_table(HEAD + "kind k ( ) { set a = ( a + b ) ; next }"), 2, 4)
        told = changed(made, read_table(HEAD + "kind k ( ) { back }"), "k")
        self.assertEqual((told.used(), told.entry("k"), holes(told)), (1, 0, [1, 2, 3]))

    def test_one_change_after_the_other(self):
        source = random.Random(112)
        counts = {}
        for _ in range(80):
            drawing = TableDrawing(source, deep=3, choices=2, kinds=5)
            words = drawing.text()
            try:
                made = made_of(read_table(words), source.randint(2, 6), 400)
            except RowsError:
                continue
            made = made_of(made.table, made.many, min(400, made.used() + source.randint(0, 12)))
            for _ in range(6):
                words_new, kind = with_a_kind_drawn_anew(source, drawing, words)
                new = read_table(words_new)
                entries = {other: made.entry(other) for other in new.kinds}
                due = oracle_laying.changed(made.room_told(), entries, new, kind, made.many, made.size)
                if due[0] in ("Crowded", "NoRoom"):
                    counts[due[0]] = counts.get(due[0], 0) + 1
                    refuses(self, lambda: changed(made, new, kind), {"Crowded": Crowded, "NoRoom": NoRoom}[due[0]], kind, due[2])
                    continue
                counts["made"] = counts.get("made", 0) + 1
                told = changed(made, new, kind)
                self.assertEqual((told.room_told(), {other: told.entry(other) for other in new.kinds}), due)
                self.holds_of_a_made_room(source, made, told, kind)
                made, words = told, words_new
        self.assertGreater(min(counts[word] for word in ("Crowded", "NoRoom", "made")), 10, counts)

    def holds_of_a_made_room(self, source, made, told, kind):
        """Looks at what 113 tells of a room that was changed in a kind."""
        rows = [row for row in told.room_told() if row is not None]
        self.assertEqual(len(rows), len(set(rows)))
        self.assertEqual(told.used(), made_of(told.table, told.many, 400).used())
        self.assertEqual(holes(told), [address for address in range(told.size) if told.room_told()[address] is None])
        fresh = made_of(told.table, told.many, 400)
        for other in told.table.kinds:
            self.assertEqual(told.lengths(other), fresh.lengths(other))
            paper = paper_of(told, other)
            self.assertTrue(lets_by(told.table, other, told.rows_laid(), told.many, told.entry(other), paper))
            if other != kind:
                self.assertEqual(paper, paper_of(made, other))
                self.assertEqual(laid_for(told, other), laid_for(made, other))
            state, row = some_state(source, told.table), some_row(source, told.table, kind=other)
            behind = row_beneath(told.table, told.rows_laid(), told.many, told.entry(other), state, row, 2000)
            self.assertEqual(behind[0].told(), row_done(told.table, state, row).told())
            self.assertIn(behind[1], told.lengths(other))


class Holes(unittest.TestCase):
    def test_holes(self):
        self.assertEqual(holes(MADE), list(range(MADE.used(), 30)))
        self.assertEqual(holes(made_of(TABLE, 3, MADE.used())), [])
        made = changed(MADE, table(one="{ stop }"), "one")
        self.assertEqual(holes(made), [address for address, row in enumerate(made.rows_laid()) if row is None])
        self.assertLess(holes(made)[0], max(made.addresses("three")))

    def test_told_anew(self):
        told = holes(MADE)
        told.clear()
        self.assertEqual(holes(MADE), list(range(MADE.used(), 30)))


if __name__ == "__main__":
    unittest.main()
