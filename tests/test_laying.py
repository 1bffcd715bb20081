"""Promises 71 to 74: rooms of little rows, made of tables."""

import random
import unittest

from rowsbeneath.errors import Crowded, NoKind, NoPlaces, NoRoom, NoSize
from rowsbeneath.laying import Made, made_of
from rowsbeneath.leaves import steps_of
from rowsbeneath.little import Little, fits
from rowsbeneath.littletext import show_room
from rowsbeneath.packing import chain_of, meets
from rowsbeneath.tabletext import read_table
from tests import oracle_laying as oracle
from tests.draws import some_table
from tests.helpers import ODD_THINGS, refusal_of, refuses

HEAD = "word 8 ; cells 4 ; depth 1 ; places a b ; marks m ; gate ; "
# Needs three inner places, and four.
THREE = "( ( a + b ) + ( a + b ) )"
FOUR = f"( {THREE} + {THREE} )"


def table_of(*kinds):
    """A table of these kinds."""
    return read_table(HEAD + " ".join("kind " + kind for kind in kinds))


def leaf_kind(name, *words, end="next"):
    """A kind that sets place a to these words."""
    return name + " ( ) { " + " ".join(f"set a = {word} ;" for word in words) + f" {end} " + "}"


class Refused(unittest.TestCase):
    TABLE = table_of("k ( ) { next }", "h ( ) { stop }")

    def told(self, table, many, size):
        """The refusal as a tuple, or None."""
        refusal = refusal_of(lambda: made_of(table, many, size))
        return None if refusal is None else (type(refusal), *vars(refusal).values())

    def test_how_many_inner_places(self):
        for many in range(2, 9):
            self.assertEqual(made_of(self.TABLE, many, 2).many, many)
        for thing in (1, 9, 0, -2, True, False, None, "2", 2 ** 70, [2], (2,), {}, self.TABLE) + ODD_THINGS:
            for size in (2, 1, 0, None):
                refuses(self, lambda: made_of(self.TABLE, thing, size), NoPlaces, thing)

    def test_sizes(self):
        for size in (2, 3, 399, 400):
            made = made_of(self.TABLE, 2, size)
            self.assertEqual((made.size, len(made.rows_laid())), (size, size))
        self.assertEqual(made_of(table_of("k ( ) { next }"), 2, 1).size, 1)
        for thing in (0, 401, -1, True, False, None, "3", 10 ** 29, [3], (3,), {}, self.TABLE) + ODD_THINGS:
            refuses(self, lambda: made_of(self.TABLE, 2, thing), NoSize, thing)
            refuses(self, lambda: made_of(table_of(leaf_kind("k", FOUR)), 2, thing), NoSize, thing)

    def test_crowded(self):
        table = table_of("fine ( ) { next }", leaf_kind("full", FOUR))
        for many, wanted in ((2, 4), (3, 4)):
            self.assertEqual(self.told(table, many, 400), (Crowded, "full", wanted))
        self.assertIsNone(self.told(table, 4, 400))
        table = table_of(leaf_kind("k", FOUR, FOUR, FOUR, FOUR))
        for many in range(2, 7):
            self.assertEqual(self.told(table, many, 400), (Crowded, "k", 7))
        self.assertIsNone(self.told(table, 7, 400))

    def test_the_first_crowded_leaf_in_reading_order(self):
        three, four, none = [f"{{ set a = {e} ; next }}" for e in (THREE, FOUR, "1")]
        for yes, no, wanted in ((three, four, 3), (four, three, 4), (none, three, 3), (four, none, 4),
                                (f"{{ if m {none} else {three} }}", four, 3), (f"{{ if m {none} else {four} }}", three, 4),
                                (none, f"{{ if m {four} else {three} }}", 4)):
            table = table_of(f"k ( ) {{ if a {yes} else {no} }}")
            self.assertEqual(self.told(table, 2, 400), (Crowded, "k", wanted))

    def test_no_room(self):
        # Three little rows, then two more, then one that lies there already.
        table = table_of(leaf_kind("one", "( b + 1 )"), leaf_kind("two", "[ 1 ]", end="stop"), leaf_kind("three", "( b + 1 )"))
        self.assertIsNone(self.told(table, 2, 5))
        self.assertEqual(made_of(table, 2, 5).used(), 5)
        for size, wanted in ((4, (NoRoom, "two", 1)), (3, (NoRoom, "two", 2)), (2, (NoRoom, "one", 1)), (1, (NoRoom, "one", 2))):
            self.assertEqual(self.told(table, 2, size), wanted)

    def test_no_room_counts_unlike_ones_alone(self):
        table = table_of(leaf_kind("one", "1"), leaf_kind("two", "1"), leaf_kind("three", "1", end="stop"))
        self.assertEqual(self.told(table, 2, 1), (NoRoom, "three", 1))
        self.assertIsNone(self.told(table, 2, 2))

    def test_the_first_that_is_due(self):
        long, full = leaf_kind("long", "1", "2", "3"), leaf_kind("full", THREE)
        self.assertEqual(self.told(table_of(long, full), 2, 2), (NoRoom, "long", 1))
        self.assertEqual(self.told(table_of(full, long), 2, 2), (Crowded, "full", 3))
        self.assertEqual(self.told(table_of(long, full), 2, 3), (Crowded, "full", 3))
        self.assertEqual(self.told(table_of(leaf_kind("both", THREE, "1", "2")), 2, 1), (Crowded, "both", 3))
        self.assertEqual(self.told(table_of(long, full), 1, 0), (NoPlaces, 1))
        self.assertEqual(self.told(table_of(long, full), 2, 0), (NoSize, 0))

    def test_more_than_a_room_can_have(self):
        kinds = [leaf_kind(name, *[f"( ( a + {n} ) - ( b - {k} ) )" for n in range(4)]) for k, name in enumerate("defghij")]
        table = table_of(*kinds)
        wanted = oracle.made(table, 8, 400)
        self.assertEqual(len([row for row in wanted[0] if row]), made_of(table, 8, 400).used())
        for size in range(1, 120):
            wanted = oracle.made(table, 8, size)
            told = self.told(table, 8, size)
            self.assertEqual(None if told is None else told[1:], wanted[1:] if isinstance(wanted[0], str) else None)


class WholeRooms(unittest.TestCase):
    def room(self, table, many, size, text):
        made = made_of(table, many, size)
        self.assertIsInstance(made, Made)
        self.assertEqual(show_room(made.rows_laid()).split("\n"), text)
        return made

    def test_a_leaf_with_steps(self):
        table = table_of("add ( p place , x number ) { set p = ( p + x ) ; next }")
        made = self.room(table, 2, 4, ["put f0 r1 : done next", "two r1 + r0 f1 : on 0", "get r0 f0 : on 1", "-"])
        self.assertEqual((made.entry("add"), made.addresses("add"), made.lengths("add"), made.used()), (2, [0, 1, 2], [3], 3))

    def test_a_leaf_without_steps(self):
        table = table_of("k ( ) { next }", "h ( r row ) { go r }", "f ( ) { fault odd }")
        made = self.room(table, 2, 3, [": done next", ": done go f0", ": done fault odd"])
        self.assertEqual([(made.entry(kind), made.addresses(kind), made.lengths(kind)) for kind in ("k", "h", "f")],
                         [(0, [0], [1]), (1, [1], [1]), (2, [2], [1])])

    def test_steps_packed_into_beats(self):
        table = table_of("k ( x number ) { set a = ( a + x ) ; set b = ( b - x ) ; set m = ( x < 3 ) ; back }")
        made = self.room(table, 8, 9, [
            "tell m0 r4 : done back", "put p1 r3 : on 0", "two r3 - r2 f0 , put p0 r1 : on 1",
            "two r1 + r0 f0 , get r2 p1 : on 2", "get r0 p0 , two r4 < f0 3 : on 3", "-", "-", "-", "-"])
        self.assertEqual((made.entry("k"), made.lengths("k"), made.used()), (4, [5], 5))

    def test_choices(self):
        table = table_of("k ( p place , q mark , r row ) { if p { if q { go r } else { stop } } else { if top p { next } else { back } } }")
        made = self.room(table, 2, 7, [": done go f2", ": done stop", "ask r0 f1 : some r0 0 1", ": done next", ": done back",
                                       "get r0 f0 : top r0 3 4", "get r0 f0 : some r0 2 5"])
        self.assertEqual((made.entry("k"), made.addresses("k"), made.lengths("k")), (6, [0, 1, 2, 3, 4, 5, 6], [3, 3, 3, 3]))

    def test_choices_of_unlike_depth(self):
        table = table_of("k ( ) { if top a { set a = b ; next } else { if m { next } else { if b { stop } else { set a = 0 ; set b = 0 ; next } } } }")
        made = self.room(table, 2, 9, ["put p0 r0 : done next", "get r0 p1 : on 0", ": done next", ": done stop", "put p1 0 : done next",
                                       "put p0 0 : on 4", "get r0 p1 : some r0 3 5", "ask r0 m0 : some r0 2 6", "get r0 p0 : top r0 1 7"])
        self.assertEqual((made.entry("k"), made.lengths("k"), made.addresses("k")), (8, [3, 3, 4, 5], list(range(9))))

    def test_alike_in_a_part(self):
        table = table_of("one ( ) { set a = b ; set m = 1 ; next }", "two ( ) { set a = 7 ; set m = 1 ; next }",
                         "three ( ) { set b = 0 ; set a = 7 ; set m = 1 ; next }")
        made = self.room(table, 2, 5, ["tell m0 1 : done next", "put p0 r0 : on 0", "get r0 p1 : on 1", "put p0 7 : on 0", "put p1 0 : on 3"])
        self.assertEqual([(made.entry(kind), made.addresses(kind), made.lengths(kind)) for kind in table.kinds],
                         [(2, [0, 1, 2], [3]), (3, [0, 3], [2]), (4, [0, 3, 4], [3])])

    def test_wholly_alike(self):
        table = table_of("one ( p place ) { if p { set p = 0 ; next } else { next } }", "two ( q place ) { if q { set q = 0 ; next } else { next } }",
                         "three ( ) { next }")
        made = self.room(table, 2, 3, ["put f0 0 : done next", ": done next", "get r0 f0 : some r0 0 1"])
        self.assertEqual([made.entry(kind) for kind in table.kinds], [2, 2, 1])
        self.assertEqual((made.addresses("one"), made.addresses("two"), made.addresses("three")), ([0, 1, 2], [0, 1, 2], [1]))
        self.assertEqual((made.lengths("one"), made.lengths("two"), made.lengths("three"), made.used()), ([2, 2], [2, 2], [1], 3))

    def test_alike_in_both_branches(self):
        table = table_of("k ( ) { if m { set a = 0 ; next } else { set a = 0 ; next } }")
        made = self.room(table, 2, 2, ["put p0 0 : done next", "ask r0 m0 : some r0 0 0"])
        self.assertEqual((made.entry("k"), made.addresses("k"), made.lengths("k")), (1, [0, 1], [2, 2]))

    def test_alike_but_for_the_end_or_the_way_on(self):
        table = table_of("one ( ) { set a = 0 ; next }", "two ( ) { set a = 0 ; stop }", "three ( ) { set a = 0 ; set a = 0 ; next }",
                         "four ( ) { if m { next } else { stop } }", "five ( ) { if m { stop } else { next } }")
        self.room(table, 2, 8, ["put p0 0 : done next", "put p0 0 : done stop", "put p0 0 : on 0", ": done next", ": done stop",
                                "ask r0 m0 : some r0 3 4", "ask r0 m0 : some r0 4 3", "-"])

    def test_place_and_top_of_one_place(self):
        table = table_of("k ( ) { if a { next } else { stop } }", "t ( ) { if top a { next } else { stop } }")
        self.room(table, 2, 4, [": done next", ": done stop", "get r0 p0 : some r0 0 1", "get r0 p0 : top r0 0 1"])


class WhatItTells(unittest.TestCase):
    TABLE = table_of("add ( p place , x number ) { set p = ( p + x ) ; next }", "halt ( ) { stop }")

    def test_fields(self):
        made = made_of(self.TABLE, 5, 17)
        self.assertIs(made.table, self.TABLE)
        self.assertEqual((made.many, made.size), (5, 17))

    def test_rows_and_their_tuples(self):
        made = made_of(self.TABLE, 2, 6)
        rows, told = made.rows_laid(), made.room_told()
        self.assertEqual((len(rows), len(told), made.used()), (6, 6, 4))
        for little, row in zip(rows, told):
            self.assertTrue(little is None or isinstance(little, Little))
            self.assertEqual(None if little is None else little.told(), row)
        self.assertEqual(told, [((("put", ("by", 0), ("in", 1)),), ("done", ("next",))),
                                ((("two", 1, "+", ("in", 0), ("field", 1)),), ("on", 0)),
                                ((("get", 0, ("by", 0)),), ("on", 1)), ((), ("done", ("stop",))), None, None])

    def test_lists_are_new_each_time(self):
        made = made_of(self.TABLE, 2, 6)
        questions = (made.rows_laid, made.room_told, lambda: made.addresses("add"), lambda: made.lengths("add"))
        for asked in questions:
            first = asked()
            self.assertIs(type(first), list)
            kept = list(first)
            first[0] = "changed"
            first.append(None)
            self.assertEqual(asked(), kept)
        self.assertEqual((made.entry("add"), made.used()), (2, 4))

    def test_no_kind(self):
        made = made_of(self.TABLE, 2, 6)
        for thing in tuple(thing for thing in ODD_THINGS if thing != "add") + ("ad", "a", "m", "p", ("add",), made, self.TABLE, 0, 2):
            for asked in (made.entry, made.addresses, made.lengths):
                refuses(self, lambda: asked(thing), NoKind, thing)

    def test_made_again(self):
        one, other = made_of(self.TABLE, 3, 9), made_of(read_table(HEAD + "kind add ( p place , x number ) { set p = ( p + x ) ; next } "
                                                                           "kind halt ( ) { stop }"), 3, 9)
        self.assertEqual((one.room_told(), one.entry("halt")), (other.room_told(), other.entry("halt")))

    def test_drawn(self):
        source = random.Random(72)
        told = {}
        for _ in range(250):
            table = some_table(source, source.choice([2, 3, 4]), 3, 8)
            many, size = source.randint(2, 8), source.choice([400, 400, source.randint(1, 60)])
            wanted = oracle.made(table, many, size)
            refusal = refusal_of(lambda: made_of(table, many, size))
            sort = "made" if refusal is None else type(refusal).__name__
            told[sort] = told.get(sort, 0) + 1
            if refusal is not None:
                self.assertEqual((sort, *vars(refusal).values()), wanted)
                continue
            made = made_of(table, many, size)
            room, entries, lengths = wanted
            self.assertEqual(made.room_told(), room)
            self.assertEqual({kind: made.entry(kind) for kind in table.kinds}, entries)
            self.assertEqual({kind: made.lengths(kind) for kind in table.kinds}, lengths)
            self.looked_at(made)
        self.assertGreater(min(told[sort] for sort in ("made", "Crowded", "NoRoom")), 20)

    def looked_at(self, made):
        """What holds of each made room."""
        rows = [little for little in made.rows_laid() if little is not None]
        self.assertEqual(made.used(), len(rows))
        self.assertEqual(len({little.told() for little in rows}), len(rows))
        for little in rows:
            for at, step in enumerate(little.steps):
                self.assertFalse(any(meets(other, step) for other in little.steps[:at]))
        reached = set()
        for kind in made.table.kinds:
            addresses = made.addresses(kind)
            self.assertEqual(addresses, sorted(set(addresses)))
            self.assertIn(made.entry(kind), addresses)
            reached.update(addresses)
            for address in addresses:
                little = made.rows_laid()[address]
                self.assertTrue(fits(made.table, kind, made.many, little))
                behind = {"on": little.on[1:2], "done": ()}.get(little.on[0], little.on[2:])
                self.assertTrue(set(behind) <= set(addresses))
        self.assertEqual(reached, {at for at, little in enumerate(made.rows_laid()) if little is not None})


class FewestBeats(unittest.TestCase):
    def test_a_chain_as_long_as_the_leaf(self):
        source = random.Random(8)
        for _ in range(60):
            table = some_table(source, 4, 1, 3)
            made = made_of(table, 8, 400)
            for kind in table.kinds:
                for (leaf, ahead), length in zip(oracle.leaves(table.deed(kind)), made.lengths(kind)):
                    self.assertEqual(length - ahead, max(1, len(chain_of(steps_of(leaf[1], 8)))))


if __name__ == "__main__":
    unittest.main()
