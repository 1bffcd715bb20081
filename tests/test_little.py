"""Promises 43 to 45 and 47: little rows, what they are made of, what they fit, and their words."""

import random
import unittest

from rowsbeneath.errors import BadStep, NoKind
from rowsbeneath.little import Little, fits, little_of
from rowsbeneath.steps import Get, Put, step_of
from rowsbeneath.tabletext import read_table
from tests.draws import some_on, some_step
from tests.helpers import ODD_THINGS, refuses

GET, TWO, PUT = ("get", 0, ("is", 1)), ("two", 1, "+", ("in", 0), ("number", 17)), ("put", ("by", 0), ("in", 1))
NEXT = ("done", ("next",))
WAYS_ON = {
    ("on", 3): "on 3", ("on", 0): "on 0", ("on", 399): "on 399", ("some", 0, 3, 4): "some r0 3 4",
    ("some", 7, 0, 399): "some r7 0 399", ("top", 0, 3, 4): "top r0 3 4", ("top", 7, 399, 399): "top r7 399 399",
    NEXT: "done next", ("done", ("go", 1)): "done go f1", ("done", ("call", 2)): "done call f2",
    ("done", ("go", 0)): "done go f0", ("done", ("back",)): "done back", ("done", ("stop",)): "done stop",
    ("done", ("fault", "odd")): "done fault odd", ("done", ("fault", "abcdefgh")): "done fault abcdefgh",
}
BAD_WAYS_ON = (
    ("on", -1), ("on", 400), ("on", True), ("on", None), ("on",), ("on", 0, 0), ["on", 0], ("some", -1, 0, 0), ("some", 8, 0, 0),
    ("some", 0, -1, 0), ("some", 0, 0, -1), ("some", 0, 400, 0), ("some", 0, 0, 400), ("some", True, 0, 0), ("some", 0, True, 0),
    ("some", 0, 0, False), ("some", 0, 0), ("some", 0, 0, 0, 0), ["some", 0, 0, 0], ("top", 8, 0, 0), ("top", 0, 400, 0),
    ("top", 0, 0, 400), ("top", 0, 0), ("top", ("in", 0), 0, 0), ("done",), ("done", "next"), ("done", None), ("done", ()),
    ("done", ("next",), 0), ("done", ["next"]), ["done", ("next",)], ("done", ("next", 0)), ("done", ("go",)), ("done", ("go", 3)),
    ("done", ("go", -1)), ("done", ("go", True)), ("done", ("go", "r")), ("done", ("go", 0, 0)), ("done", ("call", 3)),
    ("done", ("call",)), ("done", ("back", 0)), ("done", ("stop", 0)), ("done", ("fault",)), ("done", ("fault", "deep")),
    ("done", ("fault", "bare")), ("done", ("fault", "")), ("done", ("fault", "abcdefghi")), ("done", ("fault", "Odd")),
    ("done", ("fault", "next")), ("done", ("fault", "fault")), ("done", ("fault", 0)), ("done", ("fault", ["odd"])),
    ("done", ("fault", "odd", "odd")), ("done", ("deep",)), ("done", (["next"],)), ("next",), ("go", 0), (), (0,), ([], 0),
    ("", 0), "on", None, 0, True, {}, GET,
)


class Made(unittest.TestCase):
    def test_fields_and_tuple(self):
        steps = [step_of(told) for told in (GET, TWO, PUT)]
        for handed in (steps, tuple(steps)):
            little = Little(handed, NEXT)
            self.assertEqual((little.steps, little.on), (tuple(steps), NEXT))
            self.assertIs(type(little.steps), tuple)
            self.assertEqual(little.told(), ((GET, TWO, PUT), NEXT))
        little = Little(steps, NEXT)
        steps.append(steps[0])
        self.assertEqual(little.told(), ((GET, TWO, PUT), NEXT))

    def test_of_a_tuple(self):
        little = little_of(((GET, PUT), ("on", 3)))
        self.assertIsInstance(little, Little)
        self.assertEqual([type(step) for step in little.steps], [Get, Put])
        self.assertEqual((little.told(), little.on), (((GET, PUT), ("on", 3)), ("on", 3)))

    def test_no_steps_and_sixteen(self):
        for many in (0, 1, 2, 15, 16):
            told = ((TWO,) * many, NEXT)
            self.assertEqual(little_of(told).told(), told)
        for many in (17, 18, 40):
            told = ((TWO,) * many, NEXT)
            refuses(self, lambda: little_of(told), BadStep, told)

    def test_every_way_on(self):
        for on, words in WAYS_ON.items():
            little = little_of(((GET,), on))
            self.assertEqual((little.on, little.told()), (on, ((GET,), on)))
            self.assertEqual(little.words(), "get r0 p1 : " + words)
            self.assertEqual(little_of(((), on)).words(), ": " + words)

    def test_words(self):
        self.assertEqual(little_of(((GET, TWO, PUT), ("some", 1, 0, 12))).words(),
                         "get r0 p1 , two r1 + r0 17 , put f0 r1 : some r1 0 12")

    def test_drawn(self):
        source = random.Random(44)
        for _ in range(200):
            told = (tuple(some_step(source) for _ in range(source.randint(0, 16))), some_on(source))
            little = little_of(told)
            self.assertEqual(little.told(), told)
            steps = " , ".join(step.words() for step in little.steps)
            self.assertEqual(little.words().rpartition(": ")[0], steps + " " if steps else "")


class Refused(unittest.TestCase):
    def refused(self, thing):
        refuses(self, lambda: little_of(thing), BadStep, thing)

    def test_bad_ways_on(self):
        for on in BAD_WAYS_ON:
            self.refused(((GET,), on))
            self.refused(((), on))

    def test_bad_steps(self):
        for step in (("get", 8, ("is", 0)), ("got", 0, ("is", 0)), list(GET), None, 0, "get r0 p1", (), ("two", 0, "*", ("in", 0), ("in", 0)),
                     step_of(GET), (GET,), NEXT):
            self.refused(((step,), NEXT))
            self.refused(((GET, step, PUT), NEXT))
            self.refused(((GET,) * 15 + (step,), NEXT))

    def test_the_whole_tuple(self):
        for thing in (((GET,),), ((GET,), NEXT, NEXT), (NEXT, (GET,)), [(GET,), NEXT], ([GET], NEXT), (GET, NEXT), ({}, NEXT),
                      (None, NEXT), ("", NEXT), (0, NEXT), NEXT, (), ((), ()), ((),), GET, Little([], NEXT)) + ODD_THINGS:
            self.refused(thing)


TABLE = read_table("""word 8 ; cells 4 ; depth 1 ; places a b ; marks m ; gate ;
kind k ( p place , q mark , x number ) { next }
kind jumps ( r row , p place ) { go r }
kind none ( ) { stop }""")
UNMARKED = read_table("word 24 ; cells 4 ; depth 1 ; places a b c d ; marks ; gate ; kind k ( ) { next }")


class Fits(unittest.TestCase):
    def fitting(self, step, kind="k", many=4, on=NEXT, table=TABLE):
        told = fits(table, kind, many, little_of(((step,) if step else (), on)))
        self.assertIs(type(told), bool)
        return told

    def test_inner_places(self):
        number = ("number", 0)
        for many in range(2, 9):
            for r in range(8):
                inner = ("in", r)
                for step in (("get", r, ("is", 0)), ("ask", r, ("is", 0)), ("cell", r, number), ("cell", 0, inner),
                             ("two", r, "+", number, number), ("two", 0, "+", inner, number), ("two", 0, "+", number, inner),
                             ("put", ("is", 0), inner), ("tell", ("is", 0), inner), ("store", inner, number),
                             ("store", number, inner)):
                    self.assertIs(self.fitting(step, many=many), r < many, step)
                for on in (("some", r, 0, 399), ("top", r, 399, 0)):
                    self.assertIs(self.fitting(None, many=many, on=on), r < many)

    def test_places_and_marks(self):
        for i in range(4):
            for step in (("get", 0, ("is", i)), ("put", ("is", i), ("in", 0))):
                self.assertIs(self.fitting(step), i < 2)
                self.assertIs(self.fitting(step, table=UNMARKED), True)
            for step in (("ask", 0, ("is", i)), ("tell", ("is", i), ("in", 0))):
                self.assertIs(self.fitting(step), i < 1)
                self.assertIs(self.fitting(step, table=UNMARKED), False)

    def test_fields(self):
        # For each kind the numbers of its fields of a sort.
        sorts = {"k": {"place": 0, "mark": 1, "number": 2, "row": None},
                 "jumps": {"place": 1, "mark": None, "number": None, "row": 0},
                 "none": {"place": None, "mark": None, "number": None, "row": None}}
        for kind, at in sorts.items():
            for j in range(3):
                by, field = ("by", j), ("field", j)
                for step in (("get", 0, by), ("put", by, ("in", 0))):
                    self.assertIs(self.fitting(step, kind), at["place"] == j)
                for step in (("ask", 0, by), ("tell", by, ("in", 0))):
                    self.assertIs(self.fitting(step, kind), at["mark"] == j)
                for step in (("cell", 0, field), ("two", 0, "=", field, ("in", 0)), ("two", 0, "=", ("in", 0), field),
                             ("put", ("is", 0), field), ("tell", ("is", 0), field), ("store", field, ("in", 0)),
                             ("store", ("in", 0), field)):
                    self.assertIs(self.fitting(step, kind), at["number"] == j)
                for end in ("go", "call"):
                    self.assertIs(self.fitting(None, kind, on=("done", (end, j))), at["row"] == j)

    def test_words(self):
        for number, good in ((0, True), (255, True), (256, False), (2 ** 24 - 1, False)):
            told = ("number", number)
            for step in (("cell", 0, told), ("two", 0, "<", told, ("in", 0)), ("two", 0, "<", ("in", 0), told),
                         ("put", ("is", 0), told), ("tell", ("is", 0), told), ("store", told, ("in", 0)),
                         ("store", ("in", 0), told)):
                self.assertIs(self.fitting(step), good)
        self.assertIs(self.fitting(("cell", 0, ("number", 2 ** 24 - 1)), table=UNMARKED), True)

    def test_ways_on(self):
        for on in (("on", 0), ("on", 399), NEXT, ("done", ("back",)), ("done", ("stop",)), ("done", ("fault", "odd"))):
            self.assertIs(self.fitting(None, "none", on=on), True)

    def test_one_bad_part_among_many_good_ones(self):
        good = ("two", 0, "+", ("in", 1), ("field", 2))
        bad = ("get", 1, ("is", 2))
        self.assertIs(fits(TABLE, "k", 2, little_of(((good,) * 16, NEXT))), True)
        for at in range(16):
            steps = (good,) * at + (bad,) + (good,) * (15 - at)
            self.assertIs(fits(TABLE, "k", 2, little_of((steps, NEXT))), False)
        self.assertIs(fits(TABLE, "k", 2, little_of(((good,), ("done", ("go", 0))))), False)
        self.assertIs(fits(TABLE, "k", 2, little_of(((bad,), NEXT))), False)

    def test_no_kind(self):
        for thing in ODD_THINGS + ("kk", "a", "m", "p", TABLE, Little([], NEXT)):
            for little in (little_of(((), NEXT)), little_of(((("get", 7, ("is", 3)),), NEXT))):
                refuses(self, lambda: fits(TABLE, thing, 2, little), NoKind, thing)


if __name__ == "__main__":
    unittest.main()
