"""Promises 41, 42, 44 and 47: steps, what they read and write, and their words."""

import random
import unittest

from rowsbeneath.above import state_of
from rowsbeneath.errors import BadStep, RowsError
from rowsbeneath.steps import Ask, Cell, Get, Put, Step, Store, Tell, Two, step_of
from rowsbeneath.tabletext import read_table
from tests.draws import OPS, some_step
from tests.helpers import ODD_THINGS, refuses

IS, BY, IN, NUMBER, FIELD = ("is", 1), ("by", 2), ("in", 3), ("number", 17), ("field", 1)
WIDE = ("number", 2 ** 24 - 1)

# For each tuple: its class, its fields, what it reads, what it writes, its words.
ALL = {
    ("get", 0, IS): (Get, {"to": 0, "sel": IS}, ["way"], ["r0", "way"], "get r0 p1"),
    ("get", 7, BY): (Get, {"to": 7, "sel": BY}, ["way"], ["r7", "way"], "get r7 f2"),
    ("ask", 1, IS): (Ask, {"to": 1, "sel": IS}, ["way"], ["r1", "way"], "ask r1 m1"),
    ("ask", 1, BY): (Ask, {"to": 1, "sel": BY}, ["way"], ["r1", "way"], "ask r1 f2"),
    ("cell", 1, IN): (Cell, {"to": 1, "source": IN}, ["r3", "way"], ["r1", "way"], "cell r1 r3"),
    ("cell", 3, IN): (Cell, {"to": 3, "source": IN}, ["r3", "way"], ["r3", "way"], "cell r3 r3"),
    ("cell", 1, NUMBER): (Cell, {"to": 1, "source": NUMBER}, ["way"], ["r1", "way"], "cell r1 17"),
    ("cell", 1, FIELD): (Cell, {"to": 1, "source": FIELD}, ["way"], ["r1", "way"], "cell r1 f1"),
    ("two", 0, "+", ("in", 5), IN): (Two, {"to": 0, "op": "+", "one": ("in", 5), "other": IN}, ["r3", "r5"], ["r0"],
                                     "two r0 + r5 r3"),
    ("two", 3, "<<", IN, IN): (Two, {"to": 3, "op": "<<", "one": IN, "other": IN}, ["r3"], ["r3"], "two r3 << r3 r3"),
    ("two", 2, "=", NUMBER, FIELD): (Two, {"to": 2, "op": "=", "one": NUMBER, "other": FIELD}, [], ["r2"], "two r2 = 17 f1"),
    ("two", 2, "-", WIDE, IN): (Two, {"to": 2, "op": "-", "one": WIDE, "other": IN}, ["r3"], ["r2"], "two r2 - 16777215 r3"),
    ("put", IS, IN): (Put, {"sel": IS, "source": IN}, ["r3", "way"], ["way"], "put p1 r3"),
    ("put", BY, ("number", 0)): (Put, {"sel": BY, "source": ("number", 0)}, ["way"], ["way"], "put f2 0"),
    ("tell", IS, IN): (Tell, {"sel": IS, "source": IN}, ["r3", "way"], ["way"], "tell m1 r3"),
    ("tell", BY, FIELD): (Tell, {"sel": BY, "source": FIELD}, ["way"], ["way"], "tell f2 f1"),
    ("store", IN, ("in", 0)): (Store, {"at": IN, "source": ("in", 0)}, ["r0", "r3", "way"], ["way"], "store r3 r0"),
    ("store", IN, IN): (Store, {"at": IN, "source": IN}, ["r3", "way"], ["way"], "store r3 r3"),
    ("store", FIELD, NUMBER): (Store, {"at": FIELD, "source": NUMBER}, ["way"], ["way"], "store f1 17"),
}

BAD_SELS = (("is", -1), ("is", 4), ("by", -1), ("by", 3), ("is", True), ("by", False), ("is", None), ("is", "0"), ("is",),
            ("is", 0, 0), (), ["is", 0], ("at", 0), ("in", 0), (0, 0), (None, 0), "is", 0, None, True, {"is": 0}, ("is", (0,)))
BAD_SOURCES = (("in", -1), ("in", 8), ("number", -1), ("number", 2 ** 24), ("field", -1), ("field", 3), ("in", True),
               ("number", False), ("field", True), ("in", None), ("number", "0"), ("in",), ("in", 0, 0), (), ["in", 0],
               ("is", 0), ("place", IS), (0, 0), ([], 0), "in", 0, None, True, {"in": 0}, ("number", (0,)), ("number", 10 ** 29))
BAD_INNER = (-1, 8, True, False, None, "0", "r0", (), [], (0,), [0], {}, 10 ** 29, ("in", 0))
BAD_OPS = ("", "*", "++", "==", ">", "<=", "and", " +", None, 0, True, (), ("+",), ["+"], {})


class Sorts(unittest.TestCase):
    def looked_at(self, step, told, wanted):
        sort, fields, reads, writes, words = wanted
        self.assertIs(type(step), sort)
        self.assertIsInstance(step, Step)
        for name, field in fields.items():
            self.assertEqual(getattr(step, name), field)
        self.assertEqual(step.told(), told)
        self.assertIs(type(step.told()), tuple)
        self.assertEqual((step.reads(), step.writes()), (reads, writes))
        self.assertEqual(step.words(), words)

    def test_of_tuples_and_by_classes(self):
        for told, wanted in ALL.items():
            self.looked_at(step_of(told), told, wanted)
            self.looked_at(wanted[0](*wanted[1].values()), told, wanted)

    def test_classes(self):
        sorts = {Get, Ask, Cell, Two, Put, Tell, Store}
        self.assertEqual({wanted[0] for wanted in ALL.values()}, sorts)
        for sort in sorts:
            self.assertEqual(sort.__bases__, (Step,))

    def test_lists_are_new_each_time(self):
        for told in ALL:
            step = step_of(told)
            for asked in (step.reads, step.writes):
                first = asked()
                self.assertIs(type(first), list)
                first.append("r9")
                first[0] = "r8"
                self.assertNotEqual(first, asked())
            self.assertEqual((step.reads(), step.writes()), ALL[told][2:4])
            self.assertEqual(step.told(), told)

    def test_each_operation(self):
        for op in OPS:
            told = ("two", 4, op, ("in", 0), ("in", 7))
            self.assertEqual((step_of(told).told(), step_of(told).words()), (told, f"two r4 {op} r0 r7"))

    def test_drawn_steps(self):
        source = random.Random(42)
        for _ in range(500):
            told = some_step(source)
            step = step_of(told)
            self.assertEqual(step.told(), told)
            sources = [part for part in told[1:] if isinstance(part, tuple) and part[0] in ("in", "number", "field")]
            way = [] if told[0] == "two" else ["way"]
            target = [f"r{told[1]}"] if isinstance(told[1], int) else []
            self.assertEqual(step.reads(), sorted({f"r{n}" for sort, n in sources if sort == "in"}) + way)
            self.assertEqual(step.writes(), target + way)


class Refused(unittest.TestCase):
    def refused(self, thing):
        refuses(self, lambda: step_of(thing), BadStep, thing)

    def test_bounds(self):
        for r in range(8):
            self.assertEqual(step_of(("get", r, IS)).to, r)
        for i in range(4):
            for sort in ("get", "ask"):
                self.assertEqual(step_of((sort, 0, ("is", i))).sel, ("is", i))
            for sort in ("put", "tell"):
                self.assertEqual(step_of((sort, ("is", i), IN)).sel, ("is", i))
        for part in (("by", 0), ("by", 2)):
            self.assertEqual(step_of(("ask", 0, part)).sel, part)
        for part in (("in", 0), ("in", 7), ("number", 0), WIDE, ("field", 0), ("field", 2)):
            self.assertEqual(step_of(("cell", 0, part)).source, part)

    def test_each_part_spoilt(self):
        bad = {"sel": BAD_SELS, "source": BAD_SOURCES, "to": BAD_INNER, "op": BAD_OPS, "one": BAD_SOURCES,
               "other": BAD_SOURCES, "at": BAD_SOURCES}
        for told, wanted in ALL.items():
            for at, name in enumerate(wanted[1]):
                for part in bad[name]:
                    self.refused(told[:at + 1] + (part,) + told[at + 2:])

    def test_heads_and_lengths(self):
        for told in ALL:
            for head in ("Get", "got", "", "place", "mark", "in", "on", "some", None, 0, True, ("get",), ["get"], {}):
                self.refused((head,) + told[1:])
            self.refused(told[1:])
            self.refused(told[:-1])
            self.refused(told[:1])
            self.refused(told + (IN,))
            self.refused(told + (None,))
            self.refused(list(told))
            self.refused((told,))
            self.refused(step_of(told))

    def test_sorts_of_each_other(self):
        for told in ALL:
            for head in ("get", "ask", "cell", "two", "put", "tell", "store"):
                like = {told[0]} | ({"get", "ask"} if told[0] in ("get", "ask") else set())
                like |= {"put", "tell"} if told[0] in ("put", "tell") else set()
                if head not in like:
                    self.refused((head,) + told[1:])

    def test_things_of_all_kinds(self):
        for thing in ODD_THINGS + ("get r0 p1", RowsError("x"), state_of(read_table(
                "word 4 ; cells 4 ; depth 0 ; places a ; marks ; gate ; kind k ( ) { stop }"))):
            self.refused(thing)


if __name__ == "__main__":
    unittest.main()
