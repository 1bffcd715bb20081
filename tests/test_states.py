"""Promise 35: states."""

import unittest

from rowsbeneath.above import State, row_done, state_of
from rowsbeneath.errors import NoState
from rowsbeneath.tabletext import read_table
from tests.helpers import ODD_THINGS, refuses

TABLE = read_table("word 5 ; cells 4 ; depth 2 ; places a b ; marks m n o ; gate ; kind k ( ) { next }")
BARE = read_table("word 24 ; cells 64 ; depth 0 ; places a ; marks ; gate ; kind k ( ) { next }")
NAMES = ("at", "places", "marks", "cells", "pile")
GOOD = (7, [1, 31], [1, 0, 1], [0, 31, 2, 3], [999, 0])
# For each thing what it must not be: each spoilt in one way alone.
SPOILT = (
    (None, -1, 1000, True, False, "0", (), [], [0], {}, 10 ** 29, -(10 ** 29)),
    ((1, 31), [1], [1, 31, 0], [], [1, 32], [-1, 0], [True, 0], [0, False], [None, 0], ["1", 0], [[1], 0], {0: 1, 1: 31},
     "ab", 0, 2, True, False, [1, 10 ** 29]),
    ((1, 0, 1), [1, 0], [1, 0, 1, 0], [], [1, 0, 2], [-1, 0, 1], [1, 0, True], [False, 0, 1], [None, 0, 1], ["1", 0, 1],
     {}, "101", 5, True),
    ((0, 31, 2, 3), [0, 31, 2], [0, 31, 2, 3, 4], [], [0, 32, 2, 3], [-1, 0, 0, 0], [0, 0, 0, True], [0, 0, 0, None], {},
     "abcd", 4, False),
    ((1,), (), [0, 0, 0], [1000], [0, -1], [True], [0, False], [None], ["0"], [[0]], {}, "", 0, True, False),
)


class Made(unittest.TestCase):
    def test_a_new_state(self):
        state = state_of(TABLE)
        self.assertIsInstance(state, State)
        self.assertEqual(state.told(), ("on", None, 0, (0, 0), (0, 0, 0), (0, 0, 0, 0), ()))
        self.assertEqual((state.word, state.fault, state.at), ("on", None, 0))
        self.assertEqual((state.places, state.marks, state.cells, state.pile), ([0, 0], [0, 0, 0], [0, 0, 0, 0], []))
        self.assertEqual(state_of(BARE).told(), ("on", None, 0, (0,), (), (0,) * 64, ()))

    def test_of_all_things(self):
        state = state_of(TABLE, *GOOD)
        self.assertEqual(state.told(), ("on", None, 7, (1, 31), (1, 0, 1), (0, 31, 2, 3), (999, 0)))
        self.assertEqual(state_of(TABLE, **dict(zip(NAMES, GOOD))).told(), state.told())

    def test_each_thing_left_out_and_none(self):
        whole = state_of(TABLE, *GOOD).told()[2:]
        noughts = state_of(TABLE).told()[2:]
        for left in range(1, 5):
            for thing in (None, "left out"):
                handed = {name: good for name, good in zip(NAMES, GOOD)}
                handed[NAMES[left]] = None
                if thing is not None:
                    del handed[NAMES[left]]
                wanted = whole[:left] + noughts[left:left + 1] + whole[left + 1:]
                self.assertEqual(state_of(TABLE, **handed).told(), ("on", None) + wanted)
        self.assertEqual(state_of(TABLE, places=[5, 6]).told(), ("on", None, 0, (5, 6)) + noughts[2:])

    def test_at_their_bounds(self):
        self.assertEqual(state_of(TABLE, 999, [31, 0], [1, 1, 1], [31] * 4, []).told()[2:],
                         (999, (31, 0), (1, 1, 1), (31,) * 4, ()))
        self.assertEqual(state_of(TABLE, 0, None, None, None, [0]).told()[-1], (0,))
        self.assertEqual(state_of(BARE, 0, [2 ** 24 - 1], [], [2 ** 24 - 1] * 64, []).told()[3:],
                         ((2 ** 24 - 1,), (), (2 ** 24 - 1,) * 64, ()))
        for many in ([2 ** 24], [0, 0], []):
            refuses(self, lambda: state_of(BARE, 0, many), NoState, many)
        for pile in ([0], [999]):
            refuses(self, lambda: state_of(BARE, 0, None, None, None, pile), NoState, pile)


class Refused(unittest.TestCase):
    def test_each_thing_spoilt(self):
        for at, things in enumerate(SPOILT):
            for thing in things:
                handed = GOOD[:at] + (thing,) + GOOD[at + 1:]
                refuses(self, lambda: state_of(TABLE, *handed), NoState, thing)
                refuses(self, lambda: state_of(TABLE, **{NAMES[at]: thing}), NoState, thing)

    def test_things_of_all_kinds(self):
        for at in range(5):
            for thing in ODD_THINGS + (TABLE, state_of(TABLE)):
                if thing is None and at or at == 4 and thing in ([], [3]):
                    continue
                handed = GOOD[:at] + (thing,) + GOOD[at + 1:]
                refuses(self, lambda: state_of(TABLE, *handed), NoState, thing)

    def test_the_first_in_order(self):
        spoilt = [things[1] for things in SPOILT]
        for first in range(5):
            handed = list(GOOD[:first]) + spoilt[first:]
            refuses(self, lambda: state_of(TABLE, *handed), NoState, spoilt[first])
            for later in range(first + 1, 5):
                handed = list(GOOD)
                handed[first], handed[later] = spoilt[first], spoilt[later]
                refuses(self, lambda: state_of(TABLE, *handed), NoState, spoilt[first])


class OwnLists(unittest.TestCase):
    def test_lists_changed_after_they_were_handed_in(self):
        for make in (State, lambda *things: state_of(TABLE, *things)):
            lists = [[1, 2], [0, 1, 0], [5, 6, 7, 8], [3]]
            state = make(4, *lists)
            for things in lists:
                things[0] = 9
                things.append(9)
            self.assertEqual(state.told(), ("on", None, 4, (1, 2), (0, 1, 0), (5, 6, 7, 8), (3,)))

    def test_handed_in_lists_stay(self):
        lists = [[1, 2], [0, 1, 0], [5, 6, 7, 8], [3]]
        for make in (State, lambda *things: state_of(TABLE, *things)):
            state = make(4, *lists)
            for name in NAMES[1:]:
                vars(state)[name].append(1)
        self.assertEqual(lists, [[1, 2], [0, 1, 0], [5, 6, 7, 8], [3]])

    def test_changed_from_outside(self):
        state = state_of(TABLE, *GOOD)
        state.places[0] = 8
        state.marks[1] = 1
        state.cells[3] = 30
        state.pile.pop()
        wanted = ("on", None, 7, (8, 31), (1, 1, 1), (0, 31, 2, 30), (999,))
        self.assertEqual(state.told(), wanted)
        self.assertEqual(state.copied().told(), wanted)
        self.assertEqual(row_done(TABLE, state, ("k", ())).told(), ("on", None, 8) + wanted[3:])

    def test_copied(self):
        state = state_of(TABLE, *GOOD)
        state.word, state.fault = "fault", "odd"
        other = state.copied()
        self.assertIsInstance(other, State)
        self.assertEqual(other.told(), ("fault", "odd") + state_of(TABLE, *GOOD).told()[2:])
        for name in NAMES[1:]:
            self.assertIsNot(vars(other)[name], vars(state)[name])
            self.assertIs(type(vars(other)[name]), list)
            vars(other)[name].append(1)
        self.assertEqual(state.told()[2:], state_of(TABLE, *GOOD).told()[2:])

    def test_a_state_has_nothing_in_common_with_another(self):
        one, other = state_of(TABLE), state_of(TABLE)
        one.places[0] = one.marks[0] = one.cells[0] = 1
        one.pile.append(1)
        self.assertEqual(other.told(), state_of(TABLE).told())


if __name__ == "__main__":
    unittest.main()
