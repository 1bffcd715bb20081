"""Promises 41, 43 and 46: steps done at one beat, and one row done on a room."""

import random
import unittest

from rowsbeneath.above import State, row_done, state_of
from rowsbeneath.errors import NoRow, NoState
from rowsbeneath.little import fits, little_of, row_beneath
from rowsbeneath.tabletext import read_table
from tests.draws import some_on, some_row, some_state, some_step, some_table
from tests.helpers import ODD_THINGS, refuses
from tests.oracle_above import behind_end, picked, reckoned, with_one

TABLE = read_table("""word 8 ; cells 5 ; depth 1 ; places a b c ; marks m n ; gate ;
kind k ( p place , q mark , x number ) { next }
kind jumps ( x number , r row , s row ) { go r }
kind none ( ) { stop }""")
NEXT = ("done", ("next",))
NONE = ("none", ())


def room_of(*told):
    return [None if thing is None else little_of(thing) for thing in told]


def done(steps, row=("k", (2, 1, 9)), inner=None, on=NEXT, **state):
    """The told state behind one little row of these steps."""
    told = row_beneath(TABLE, room_of((tuple(steps), on)), 4, 0, state_of(TABLE, **state), row, 1, inner)
    return told[0].told()


class Beats(unittest.TestCase):
    STATE = {"places": [6, 7, 8], "marks": [0, 1], "cells": [10, 20, 30, 40, 50]}

    def left_in(self, step, inner=(0, 0, 0, 0)):
        """The word that a step leaves in the inner place 3, seen by the little row behind it."""
        room = room_of(((step,), ("on", 1)), ((("put", ("is", 0), ("in", 3)),), NEXT))
        told = row_beneath(TABLE, room, 4, 0, state_of(TABLE, **self.STATE), ("k", (2, 1, 9)), 2, list(inner))
        self.assertEqual(told[1], 2)
        self.assertEqual(told[0].told()[4:6], ((0, 1), (10, 20, 30, 40, 50)))
        return told[0].places[0]

    def test_steps_that_change_inner_places(self):
        inner = (1, 254, 3, 4)
        for step, word in (
            (("get", 3, ("is", 1)), 7), (("get", 3, ("by", 0)), 8), (("ask", 3, ("is", 0)), 0), (("ask", 3, ("is", 1)), 1),
            (("ask", 3, ("by", 1)), 1), (("cell", 3, ("in", 0)), 20), (("cell", 3, ("in", 1)), 50),
            (("cell", 3, ("number", 7)), 30), (("cell", 3, ("field", 2)), 50), (("cell", 3, ("in", 3)), 50),
            (("two", 3, "+", ("in", 1), ("in", 2)), 1), (("two", 3, "-", ("in", 0), ("in", 2)), 254),
            (("two", 3, "<<", ("in", 3), ("field", 2)), 8), (("two", 3, "<", ("number", 8), ("field", 2)), 1),
            (("two", 3, "=", ("in", 3), ("in", 3)), 1), (("two", 3, ">>", ("number", 255), ("in", 0)), 127),
            (("two", 3, "&", ("in", 1), ("field", 2)), 8), (("two", 3, "|", ("in", 0), ("in", 3)), 5),
            (("two", 3, "^", ("in", 1), ("number", 255)), 1), (("two", 2, "+", ("in", 0), ("in", 0)), 4),
        ):
            self.assertEqual(self.left_in(step, inner), word, step)

    def test_put_tell_and_store(self):
        inner = [1, 254, 0, 4]
        self.assertEqual(done([("put", ("is", 1), ("in", 1))], inner=inner)[3], (0, 254, 0))
        self.assertEqual(done([("put", ("by", 0), ("field", 2))])[3], (0, 0, 9))
        self.assertEqual(done([("put", ("is", 0), ("number", 255))])[3], (255, 0, 0))
        for word, mark in ((("in", 1), 1), (("in", 2), 0), (("number", 0), 0), (("number", 128), 1), (("field", 2), 1)):
            self.assertEqual(done([("tell", ("is", 0), word)], inner=inner, marks=[1 - mark, 0])[4], (mark, 0))
            self.assertEqual(done([("tell", ("by", 1), word)], inner=inner, marks=[0, 1 - mark])[4], (0, mark))
        self.assertEqual(done([("store", ("in", 1), ("in", 3))], inner=inner)[5], (0, 0, 0, 0, 4))
        self.assertEqual(done([("store", ("number", 5), ("number", 6))])[5], (6, 0, 0, 0, 0))
        self.assertEqual(done([("store", ("field", 2), ("field", 2))])[5], (0, 0, 0, 0, 9))

    def test_all_read_ahead_of_what_is_written(self):
        swap = [("two", 0, "+", ("in", 1), ("number", 0)), ("two", 1, "+", ("in", 0), ("number", 0))]
        room = room_of((tuple(swap), ("on", 1)), ((("put", ("is", 0), ("in", 0)),), ("on", 2)),
                       ((("put", ("is", 1), ("in", 1)),), NEXT))
        told = row_beneath(TABLE, room, 2, 0, state_of(TABLE), NONE, 3, [5, 6])
        self.assertEqual((told[0].places, told[1]), ([6, 5, 0], 3))
        # A step takes what stood ahead of the beat, though an earlier one writes it.
        self.assertEqual(done([("two", 0, "+", ("number", 3), ("number", 4)), ("put", ("is", 0), ("in", 0))],
                              inner=[1, 0, 0, 0])[3], (1, 0, 0))
        self.assertEqual(done([("put", ("is", 0), ("number", 9)), ("get", 0, ("is", 0)), ("store", ("in", 0), ("in", 1))],
                              inner=[2, 3, 0, 0], places=[4, 0, 0])[3:6], ((9, 0, 0), (0, 0), (0, 0, 3, 0, 0)))
        room = room_of(((("store", ("number", 0), ("number", 9)), ("cell", 0, ("number", 0))), ("on", 1)),
                       ((("put", ("is", 0), ("in", 0)),), NEXT))
        self.assertEqual(row_beneath(TABLE, room, 2, 0, state_of(TABLE, cells=[4, 0, 0, 0, 0]), NONE, 2)[0].told()[3:6],
                         ((4, 0, 0), (0, 0), (9, 0, 0, 0, 0)))

    def test_the_later_one_holds(self):
        self.assertEqual(done([("put", ("is", 0), ("number", 1)), ("put", ("is", 0), ("number", 2))])[3], (2, 0, 0))
        self.assertEqual(done([("put", ("is", 2), ("number", 2)), ("put", ("by", 0), ("number", 1))])[3], (0, 0, 1))
        self.assertEqual(done([("tell", ("is", 1), ("number", 1)), ("tell", ("by", 1), ("number", 0))])[4], (0, 0))
        self.assertEqual(done([("store", ("number", 1), ("number", 1)), ("store", ("number", 6), ("number", 2))])[5],
                         (0, 2, 0, 0, 0))
        room = room_of(((("two", 0, "+", ("number", 1), ("number", 1)), ("get", 0, ("is", 1))), ("some", 0, 1, 2)), None,
                       ((), NEXT))
        self.assertEqual(row_beneath(TABLE, room, 2, 0, state_of(TABLE), NONE, 2)[1], 2)


class WaysOn(unittest.TestCase):
    def comes_to(self, on, steps=(), inner=None):
        """The address to which a little row goes on, from 1 to 3, by the fault there."""
        faults = [((), ("done", ("fault", name))) for name in ("one", "two", "three")]
        room = room_of((tuple(steps), on), *faults)
        state, beats = row_beneath(TABLE, room, 2, 0, state_of(TABLE, at=4), NONE, 2, inner)
        self.assertEqual((beats, state.word, state.at), (2, "fault", 4))
        return ("one", "two", "three").index(state.fault) + 1

    def test_on_some_and_top(self):
        self.assertEqual([self.comes_to(("on", address)) for address in (1, 2, 3)], [1, 2, 3])
        for word, some, top in ((0, 3, 2), (1, 1, 2), (127, 1, 2), (128, 1, 1), (255, 1, 1)):
            self.assertEqual(self.comes_to(("some", 1, 1, 3), inner=[1, word]), some)
            self.assertEqual(self.comes_to(("top", 0, 1, 2), inner=[word, 1]), top)

    def test_as_it_stands_behind_the_steps(self):
        step = ("two", 0, "+", ("number", 128), ("number", 0))
        self.assertEqual(self.comes_to(("some", 0, 1, 2), [step], [0, 0]), 1)
        self.assertEqual(self.comes_to(("top", 0, 1, 2), [step], [0, 0]), 1)
        step = ("two", 0, "-", ("in", 0), ("in", 0))
        self.assertEqual(self.comes_to(("some", 0, 1, 2), [step], [200, 0]), 2)
        self.assertEqual(self.comes_to(("top", 0, 1, 2), [step], [200, 0]), 2)

    def test_each_end(self):
        row = ("jumps", (0, 20, 30))
        for end, pile, wanted in (
            (("next",), [1], ("on", None, 6, (1,))), (("go", 1), [1], ("on", None, 20, (1,))),
            (("go", 2), [], ("on", None, 30, ())), (("call", 2), [], ("on", None, 30, (6,))),
            (("call", 1), [1], ("fault", "deep", 5, (1,))), (("back",), [9], ("on", None, 9, ())),
            (("back",), [], ("fault", "bare", 5, ())), (("stop",), [1], ("stop", None, 5, (1,))),
            (("fault", "odd"), [], ("fault", "odd", 5, ())),
        ):
            told = done([("put", ("is", 0), ("number", 7))], row, on=("done", end), at=5, pile=pile)
            self.assertEqual((told[:3] + told[6:], told[3]), (wanted, (7, 0, 0)))


class OnARoom(unittest.TestCase):
    ADD = ("two", 0, "+", ("in", 0), ("number", 1))

    def long_room(self, many):
        """Little rows of which so many come one behind the other."""
        told = [((self.ADD,), ("on", address + 1)) for address in range(many - 1)]
        return room_of(*told, ((("put", ("is", 0), ("in", 0)),), NEXT))

    def test_just_as_many_beats(self):
        for many in (1, 2, 9, 300):
            room = self.long_room(many)
            state, beats = row_beneath(TABLE, room, 2, 0, state_of(TABLE), NONE, many)
            self.assertIsInstance(state, State)
            self.assertEqual((state.told()[2:4], beats), ((1, ((many - 1) % 256, 0, 0)), many))
            self.assertEqual(row_beneath(TABLE, room, 2, 0, state_of(TABLE), NONE, 2000)[1], many)
            if many > 1:
                self.assertIsNone(row_beneath(TABLE, room, 2, 0, state_of(TABLE), NONE, many - 1))

    def test_without_an_end(self):
        room = room_of(((self.ADD,), ("on", 0)))
        self.assertIsNone(row_beneath(TABLE, room, 2, 0, state_of(TABLE), NONE, 2000))

    def test_entries(self):
        room = room_of(((), ("done", ("stop",))), None, ((), NEXT))
        self.assertEqual(row_beneath(TABLE, room, 2, 0, state_of(TABLE), NONE, 1)[0].word, "stop")
        self.assertEqual(row_beneath(TABLE, room, 2, 2, state_of(TABLE), NONE, 1)[0].at, 1)
        for entry in (1, 3, 4, 399, 400, 10 ** 6):
            self.assertIsNone(row_beneath(TABLE, room, 2, entry, state_of(TABLE), NONE, 5))
        for empty in ([], [None], [None] * 400):
            for entry in (0, 399):
                self.assertIsNone(row_beneath(TABLE, empty, 2, entry, state_of(TABLE), NONE, 5))

    def test_addresses_without_a_little_row(self):
        for address in (1, 3, 399):
            for on in (("on", address), ("some", 0, 2, address), ("top", 0, 2, address)):
                room = room_of(((), on), None, ((), NEXT))
                self.assertIsNone(row_beneath(TABLE, room, 2, 0, state_of(TABLE), NONE, 9))
                # What is not come to is not asked for.
                if on[0] == "some":
                    self.assertEqual(row_beneath(TABLE, room, 2, 0, state_of(TABLE), NONE, 9, [1, 0])[1], 2)

    def test_little_rows_that_do_not_fit(self):
        bad = [((("get", 2, ("is", 0)),), NEXT), ((("ask", 0, ("is", 2)),), NEXT), ((("put", ("is", 3), ("in", 0)),), NEXT),
               ((("cell", 0, ("field", 0)),), NEXT), ((("cell", 0, ("number", 256)),), NEXT), ((), ("done", ("go", 0))),
               ((), ("some", 2, 0, 0))]
        for told in bad:
            self.assertIsNone(row_beneath(TABLE, room_of(told), 2, 0, state_of(TABLE), NONE, 9))
            room = room_of(((self.ADD,), ("on", 1)), ((), ("some", 0, 2, 3)), told, ((), NEXT))
            self.assertIsNone(row_beneath(TABLE, room, 2, 0, state_of(TABLE), NONE, 9))
            self.assertEqual(row_beneath(TABLE, room, 2, 0, state_of(TABLE), NONE, 9, [255, 0])[1], 3)
        room = room_of(((("get", 0, ("by", 0)),), NEXT))
        self.assertEqual(row_beneath(TABLE, room, 2, 0, state_of(TABLE), ("k", (0, 0, 0)), 1)[1], 1)
        self.assertIsNone(row_beneath(TABLE, room, 2, 0, state_of(TABLE), ("jumps", (0, 0, 0)), 1))

    def test_inner_words(self):
        room = room_of(((("put", ("is", 0), ("in", 1)), self.ADD), NEXT))
        self.assertEqual(row_beneath(TABLE, room, 2, 0, state_of(TABLE), NONE, 1)[0].places, [0, 0, 0])
        self.assertEqual(row_beneath(TABLE, room, 2, 0, state_of(TABLE), NONE, 1, None)[0].places, [0, 0, 0])
        inner = [7, 255]
        self.assertEqual(row_beneath(TABLE, room, 2, 0, state_of(TABLE), NONE, 1, inner)[0].places, [255, 0, 0])
        self.assertEqual(row_beneath(TABLE, room, 2, 0, state_of(TABLE), NONE, 1, inner=inner)[0].places, [255, 0, 0])
        self.assertEqual(inner, [7, 255])

    def test_what_is_handed_in_stays(self):
        room = room_of(((("put", ("is", 0), ("number", 1)), ("tell", ("is", 0), ("number", 1)),
                         ("store", ("number", 0), ("number", 1))), ("done", ("call", 1))), None)
        kept = list(room)
        state = state_of(TABLE, 3, [4, 5, 6], [0, 1], [7, 8, 9, 10, 11])
        ahead = state.told()
        new, _ = row_beneath(TABLE, room, 2, 0, state, ("jumps", (0, 50, 0)), 1)
        self.assertEqual(new.told(), ("on", None, 50, (1, 5, 6), (1, 1), (1, 8, 9, 10, 11), (4,)))
        self.assertEqual(state.told(), ahead)
        self.assertEqual(room, kept)
        new.pile.append(1)
        self.assertEqual(state.told(), ahead)

    def test_refused(self):
        room = room_of(((), NEXT))
        state = state_of(TABLE)
        ended = row_done(TABLE, state, NONE)
        for thing in ODD_THINGS + (("none", (0,)), ("none", []), ("jumps", (0, 1000, 0)), ("k", (3, 0, 0)), ("x", ()), state):
            for handed in (state, ended):
                for told in (room, []):
                    refuses(self, lambda: row_beneath(TABLE, told, 2, 0, handed, thing, 1), NoRow, thing)
        refuses(self, lambda: row_beneath(TABLE, room, 2, 0, ended, NONE, 1), NoState, ended)
        refuses(self, lambda: row_beneath(TABLE, [], 2, 0, ended, NONE, 1), NoState, ended)
        self.assertEqual(row_beneath(TABLE, room, 2, 0, state, ("jumps", (0, 999, 0)), 1)[1], 1)


def step_behind(table, state, inner, operands, step):
    """What one step makes, told otherwise than in the program: (what is changed, its number, the word)."""
    word = lambda source: {"in": lambda n: inner[n], "number": lambda n: n, "field": lambda n: operands[n]}[source[0]](source[1])
    head, *parts = step
    if head in ("get", "ask"):
        return ("inner", parts[0], state[3 if head == "get" else 4][picked(parts[1], operands)])
    if head == "cell":
        return ("inner", parts[0], state[5][word(parts[1]) % table.cells])
    if head == "two":
        return ("inner", parts[0], reckoned(parts[1], word(parts[2]), word(parts[3]), table.width))
    if head == "store":
        return (5, word(parts[0]) % table.cells, word(parts[1]))
    new = word(parts[1])
    return (3 if head == "put" else 4, picked(parts[0], operands), new if head == "put" else min(new, 1))


def oracle_row(table, room, many, entry, state, row, most, inner):
    """What row_beneath tells, on told tuples."""
    address = entry
    for beat in range(most):
        if address >= len(room) or room[address] is None or not fits(table, row[0], many, room[address]):
            return None
        steps, on = room[address].told()
        left = [step_behind(table, state, inner, row[1], step) for step in steps]
        for where, number, word in left:
            if where == "inner":
                inner = with_one(inner, number, word)
            else:
                state = with_one(state, where, with_one(state[where], number, word))
        if on[0] == "done":
            return (behind_end(table, state, on[1], row[1]), beat + 1)
        held = on[0] == "on" or inner[on[1]] >= (1 if on[0] == "some" else 2 ** (table.width - 1))
        address = on[1] if on[0] == "on" else on[2 if held else 3]
    return None


class Drawn(unittest.TestCase):
    def some_fitting(self, source, table, kind, many, size):
        """A little row that mostly fits."""
        steps = [some_step(source, many) for _ in range(source.randint(0, 4))]
        steps = [step for step in steps if fits(table, kind, many, little_of(((step,), NEXT))) or source.random() < 0.01]
        on = some_on(source, many, size)
        if on[0] == "done" and on[1][0] in ("go", "call") and source.random() < 0.9:
            on = NEXT
        return little_of((tuple(steps), on))

    def test_drawn_rooms(self):
        source = random.Random(46)
        told = {True: 0, False: 0}
        for _ in range(1500):
            table = some_table(source, 1, 0)
            many, size, row = source.randint(2, 8), source.randint(1, 7), some_row(source, table)
            room = [self.some_fitting(source, table, row[0], many, size) for _ in range(size)]
            state, inner = some_state(source, table), [source.randrange(2 ** table.width) for _ in range(many)]
            most, entry = source.randint(1, 10), source.randrange(size)
            wanted = oracle_row(table, room, many, entry, state.told(), row, most, tuple(inner))
            has = row_beneath(table, room, many, entry, state, row, most, inner)
            self.assertEqual(None if has is None else (has[0].told(), has[1]), wanted)
            told[has is None] += 1
        self.assertGreater(min(told.values()), 200)


if __name__ == "__main__":
    unittest.main()
