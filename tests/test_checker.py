"""Promise 83: when an entry of a paper is sound; each condition broken alone."""

import random
import unittest

from rowsbeneath.checker import lets_by
from rowsbeneath.errors import RowsError
from rowsbeneath.laying import made_of
from rowsbeneath.little import little_of
from rowsbeneath.papers import paper_of
from rowsbeneath.tabletext import read_table
from tests import oracle_papers
from tests.draws import some_e, some_on, some_sel, some_step, some_table

A, B, M = ("place", ("is", 0)), ("place", ("is", 1)), ("mark", ("is", 0))
TOP_A = ("top", ("is", 0))
X = ("field", 1)
NEXT = ("done", ("next",))
SEL_A, SEL_B = ("is", 0), ("is", 1)
TABLE = read_table("""word 8 ; cells 5 ; depth 1 ; places a b ; marks m ; gate ;
kind k ( p place , x number ) { if a { set b = ( a + x ) ; next } else { set m = [ x ] ; stop } }
kind puts ( p place , x number ) { set a = x ; set b = a ; set a = 1 ; set b = b ; next }
kind sees ( p place , x number ) { set a = [ x ] ; set m = m ; set [ a ] = b ; next }
kind tops ( r row , s row ) { if top a { go r } else { if m { go s } else { fault odd } } }
kind twice ( ) { if a { if a { next } else { stop } } else { back } }
kind free ( p place , x number ) { next }
kind none ( ) { next }""")


def answer(kind, room, paper, many=3, entry=0):
    """The checker's answer, which is also that of its second telling."""
    told = lets_by(TABLE, kind, [None if row is None else little_of(row) for row in room], many, entry, paper)
    assert told is oracle_papers.lets_by(TABLE, kind, room, many, entry, paper), (kind, room, paper)
    return told


def row(steps, on):
    return (tuple(steps), on)


# A room for the kind k, and its paper: the choice at 0, yes at 1 to 3, no at 4 and 5.
ROOM = [
    row([("get", 0, SEL_A)], ("some", 0, 1, 4)),
    row([("two", 1, "+", ("in", 0), X)], ("on", 2)),
    row([("put", SEL_B, ("in", 1)), ("two", 2, "=", ("in", 0), ("in", 0))], NEXT),
    None,
    row([("cell", 2, X)], ("on", 5)),
    row([("tell", ("is", 0), ("in", 2))], ("done", ("stop",))),
]
SUM = ("+", A, X)
PAPER = [
    (0, (), (), (), (1, 3)),
    (1, ((A, True),), ((0, A),), (), (2,)),
    (2, ((A, True),), ((1, SUM),), (), ()),
    (4, ((A, False),), (), (), (4,)),
    (5, ((A, False),), ((2, ("cell", X)),), (), ()),
]


def with_entry(at, **parts):
    """The paper of k with parts of one entry put otherwise."""
    names = ("address", "known", "inner", "puts", "nexts")
    paper = list(PAPER)
    paper[at] = tuple(parts.get(name, part) for name, part in zip(names, PAPER[at]))
    return paper


def with_row(at, told):
    return ROOM[:at] + [told] + ROOM[at + 1:]


class OneLittleRow(unittest.TestCase):
    def test_the_paper_as_it_stands(self):
        self.assertTrue(answer("k", ROOM, PAPER))
        for kind in TABLE.kinds:
            self.assertIs(answer(kind, ROOM, PAPER), kind == "k")

    def test_no_little_row_at_the_address(self):
        for at in (0, 1, 2, 4, 5):
            self.assertFalse(answer("k", with_row(at, None), PAPER))
            self.assertFalse(answer("k", ROOM[:at], PAPER))
        self.assertFalse(answer("k", [], PAPER))
        # An entry to which none leads has to be sound, too.
        self.assertTrue(answer("k", ROOM, PAPER + [(5, ((A, False),), ((2, ("cell", X)),), (), ())]))
        for address in (3, 6, 399):
            self.assertFalse(answer("k", ROOM, PAPER + [(address, (), (), (), ())]))
            self.assertTrue(answer("k", ROOM, PAPER + [(address, ((A, True), (A, False)), (), (), ())]))

    def test_a_little_row_that_does_not_fit(self):
        self.assertFalse(answer("k", ROOM, PAPER, many=2))
        for at, told in (
            (0, row([("get", 0, SEL_A), ("two", 3, "+", X, X)], ("some", 0, 1, 4))),
            (1, row([("two", 1, "+", ("in", 0), X), ("two", 2, "+", X, ("number", 256))], ("on", 2))),
            (1, row([("two", 1, "+", ("in", 0), X), ("two", 2, "+", X, ("field", 0))], ("on", 2))),
            (4, row([("cell", 2, X), ("two", 0, "+", ("field", 2), X)], ("on", 5))),
        ):
            self.assertFalse(answer("k", with_row(at, told), PAPER), told)
        self.assertTrue(answer("k", with_row(4, row([("cell", 2, X), ("two", 0, "+", X, X)], ("on", 5))), PAPER))
        lone = PAPER + [(6, ((A, False),), ((2, ("cell", X)),), (), ())]
        good = row([("tell", ("is", 0), ("in", 2)), ("two", 0, "+", X, X)], ("done", ("stop",)))
        bad = row([("tell", ("is", 0), ("in", 2)), ("two", 0, "+", X, ("number", 256))], ("done", ("stop",)))
        self.assertTrue(answer("k", ROOM + [good], lone))
        self.assertFalse(answer("k", ROOM + [bad], lone))

    def test_steps_that_meet(self):
        for at, steps in (
            (0, [("get", 0, SEL_A), ("get", 1, SEL_A)]), (0, [("get", 0, SEL_A), ("two", 0, "+", X, X)]),
            (0, [("two", 1, "+", ("in", 0), X), ("get", 0, SEL_A)]), (0, [("get", 0, SEL_A), ("two", 1, "+", ("in", 0), X)]),
            (1, [("two", 1, "+", ("in", 0), X), ("two", 2, "+", ("in", 1), X)]),
            (1, [("two", 1, "+", ("in", 0), X), ("two", 1, "+", ("in", 0), X)]),
            (5, [("tell", ("is", 0), ("in", 2)), ("two", 2, "+", X, X)]),
            (5, [("get", 0, SEL_B), ("tell", ("is", 0), ("in", 2))]),
        ):
            self.assertFalse(answer("k", with_row(at, row(steps, ROOM[at][1])), PAPER), steps)


class GoingOn(unittest.TestCase):
    def test_nexts(self):
        for at, nexts in ((0, ()), (0, (1,)), (0, (3, 1)), (0, (1, 3, 4)), (0, (1, 1)), (0, (3, 3)), (0, (0, 3)), (0, (2, 3)),
                          (1, ()), (1, (1,)), (1, (0,)), (1, (2, 2)), (1, (4,)), (2, (3,)), (4, (0,)), (3, (2,))):
            self.assertFalse(answer("k", ROOM, with_entry(at, nexts=nexts)), (at, nexts))

    def test_a_next_is_greater_than_its_own_number(self):
        room = [row([], ("on", 1)), row([], ("on", 0)), row([], NEXT)]
        self.assertFalse(answer("none", room, [(0, (), (), (), (1,)), (1, (), (), (), (0,))]))
        self.assertFalse(answer("none", [row([], ("on", 0))], [(0, (), (), (), (0,))]))
        turned = [PAPER[0][:4] + ((2, 3),), PAPER[2], PAPER[1][:4] + ((1,),)] + PAPER[3:]
        self.assertFalse(answer("k", ROOM, turned))
        moved = [PAPER[0][:4] + ((1, 2),), PAPER[1][:4] + ((4,),), PAPER[3][:4] + ((3,),), PAPER[4], PAPER[2]]
        self.assertTrue(answer("k", ROOM, moved))

    def test_two_may_lead_to_one(self):
        room = [row([("get", 0, SEL_A)], ("some", 0, 1, 1)), row([], NEXT)]
        self.assertTrue(answer("none", room, [(0, (), (), (), (1, 1)), (1, (), ((0, A),), (), ())]))
        self.assertFalse(answer("none", room, [(0, (), (), (), (1, 1)), (1, ((A, True),), (), (), ())]))
        self.assertFalse(answer("none", room, [(0, (), (), (), (1, 1)), (1, ((A, False),), (), (), ())]))

    def test_addresses(self):
        room = ROOM + [ROOM[2]]
        self.assertFalse(answer("k", room, with_entry(2, address=6)))
        self.assertTrue(answer("k", with_row(1, row(ROOM[1][0], ("on", 6))) + [ROOM[2]], with_entry(2, address=6)))
        self.assertFalse(answer("k", with_row(0, row(ROOM[0][0], ("some", 0, 4, 1))), PAPER))

    def test_known(self):
        self.assertFalse(answer("k", ROOM, with_entry(2, known=((A, True), (B, True)))))
        self.assertFalse(answer("k", ROOM, with_entry(2, known=((A, False),))))
        self.assertFalse(answer("k", ROOM, with_entry(1, known=((A, False),))))
        self.assertFalse(answer("k", ROOM, with_entry(1, known=((A, True), (TOP_A, True)))))
        self.assertFalse(answer("k", ROOM, with_entry(1, known=((A, True), (("place", ("by", 0)), True)))))
        self.assertFalse(answer("k", ROOM, with_entry(3, known=((A, True),))))
        # Less may be told than is known, but then the choice is not decided.
        self.assertFalse(answer("k", ROOM, with_entry(2, known=())))
        self.assertFalse(answer("k", ROOM, with_entry(1, known=())))

    def test_yes_and_no_exchanged(self):
        paper = [PAPER[0], (1, ((A, False),)) + PAPER[1][2:], (2, ((A, False),)) + PAPER[2][2:],
                 (4, ((A, True),)) + PAPER[3][2:], (5, ((A, True),)) + PAPER[4][2:]]
        self.assertFalse(answer("k", ROOM, paper))
        room = with_row(0, row([("get", 0, SEL_A)], ("some", 0, 4, 1)))
        self.assertFalse(answer("k", room, [PAPER[0][:4] + ((3, 1),)] + PAPER[1:]))
        self.assertFalse(answer("k", room, [PAPER[0][:4] + ((3, 1),)] + paper[1:]))

    def test_inner(self):
        self.assertFalse(answer("k", ROOM, with_entry(1, inner=((0, B),))))
        self.assertFalse(answer("k", ROOM, with_entry(1, inner=((0, A), (1, A)))))
        self.assertFalse(answer("k", ROOM, with_entry(2, inner=((1, ("+", X, A)),))))
        self.assertFalse(answer("k", ROOM, with_entry(2, inner=((1, SUM), (2, A)))))
        self.assertFalse(answer("k", ROOM, with_entry(2, inner=())))
        self.assertTrue(answer("k", ROOM, with_entry(2, inner=((0, A), (1, SUM)))))
        self.assertTrue(answer("k", ROOM, with_entry(3, inner=((0, A),))))
        self.assertFalse(answer("k", ROOM, with_entry(3, inner=((0, B),))))

    def test_puts(self):
        put = ("place", SEL_B, SUM)
        room = [row([("get", 0, SEL_A)], ("some", 0, 1, 4)), row([("two", 1, "+", ("in", 0), X)], ("on", 2)),
                row([("put", SEL_B, ("in", 1))], ("on", 3)), row([], NEXT)] + ROOM[4:]
        paper = [(0, (), (), (), (1, 4)), PAPER[1], PAPER[2][:4] + ((3,),), (3, ((A, True),), (), (put,), ()),
                 PAPER[3][:4] + ((5,),), PAPER[4]]
        self.assertTrue(answer("k", room, paper))
        for puts in ((), (put, put), (("place", SEL_A, SUM),), (("place", SEL_B, A),), (("mark", SEL_B, SUM),)):
            self.assertFalse(answer("k", room, paper[:3] + [paper[3][:3] + (puts, ())] + paper[4:]), puts)

    def test_what_is_given_is_in_its_order(self):
        one, other = ("place", SEL_A, X), ("place", SEL_B, A)
        third, fourth = ("place", SEL_A, ("number", 1)), ("place", SEL_B, B)
        steps = [("get", 0, SEL_A), ("get", 1, SEL_B), ("put", SEL_A, X), ("put", SEL_B, ("in", 0)),
                 ("put", SEL_A, ("number", 1)), ("put", SEL_B, ("in", 1))]
        def told(order, puts):
            room = [row([steps[number]], ("on", at + 1)) for at, number in enumerate(order)] + [row([], NEXT)]
            paper = [(at, (), at_inner, given, (at + 1,)) for at, (at_inner, given) in enumerate(zip(
                [(), ((0, A),)] + [((0, A), (1, B))] * 4, [(), ()] + [puts[:many] for many in range(4)]))]
            return answer("puts", room, paper + [(6, (), (), puts, ())])
        self.assertTrue(told([0, 1, 2, 3, 4, 5], (one, other, third, fourth)))
        self.assertFalse(told([0, 1, 3, 2, 4, 5], (other, one, third, fourth)))
        self.assertFalse(told([0, 1, 2, 3, 5, 4], (one, other, fourth, third)))
        self.assertFalse(told([0, 1, 3, 2, 4, 5], (one, other, third, fourth)))

    def test_a_fifth_put(self):
        put = ("place", SEL_A, X)
        room = [row([], NEXT), row([("put", SEL_A, X)], ("on", 2)), row([("put", SEL_A, X)], NEXT)]
        first = (0, (), (), (), ())
        both = ((A, True), (A, False))
        lead = [(1, ((A, True),), (), (put,) * 3, (2,)), (2, both, (), (put,) * 4, ())]
        self.assertFalse(answer("none", room, [first] + lead))
        self.assertFalse(answer("none", room, [first, (1, (), (), (put,) * 4, (2,)), (2, (), (), (put,) * 4, ())]))


class Choices(unittest.TestCase):
    ROOM = [row([("get", 0, SEL_A)], ("top", 0, 1, 2)), row([], ("done", ("go", 0))), row([("ask", 1, ("is", 0))], ("some", 1, 3, 4)),
            row([], ("done", ("go", 1))), row([], ("done", ("fault", "odd")))]
    PAPER = [(0, (), (), (), (1, 2)), (1, ((TOP_A, True),), (), (), ()), (2, ((TOP_A, False),), (), (), (3, 4)),
             (3, ((TOP_A, False), (M, True)), (), (), ()), (4, ((M, False), (TOP_A, False)), (), (), ())]

    def changed(self, at, told):
        return answer("tops", self.ROOM[:at] + [told] + self.ROOM[at + 1:], self.PAPER)

    def test_top_and_some(self):
        self.assertTrue(answer("tops", self.ROOM, self.PAPER))
        self.assertFalse(self.changed(0, row([("get", 0, SEL_A)], ("some", 0, 1, 2))))
        self.assertFalse(self.changed(0, row([("get", 0, SEL_B)], ("top", 0, 1, 2))))
        self.assertFalse(self.changed(0, row([("get", 0, SEL_A)], ("top", 1, 1, 2))))
        self.assertFalse(self.changed(0, row([("get", 0, SEL_A)], ("top", 0, 2, 1))))
        self.assertFalse(self.changed(2, row([("ask", 1, ("is", 0))], ("top", 1, 3, 4))))
        self.assertFalse(self.changed(2, row([("get", 1, SEL_A)], ("some", 1, 3, 4))))

    def test_top_of_a_mark_and_some_of_a_term_that_is_no_test(self):
        def answered(step, on, inner, known):
            room = [row([], NEXT), row([step], on), row([], NEXT)]
            paper = [(0, (), (), (), ()), (1, (), inner, (), (2, 3)), (2, known, (), (), ()), (2, (), (), (), ())]
            return answer("none", room, paper)
        for step, on, inner, pair, told in (
            (("ask", 0, ("is", 0)), ("some", 0, 2, 2), (), (M, True), True),
            (("ask", 0, ("is", 0)), ("some", 0, 2, 2), (), (M, False), False),
            (("ask", 0, ("is", 0)), ("top", 0, 2, 2), (), (("top", ("is", 0)), True), False),
            (("ask", 0, ("is", 0)), ("top", 0, 2, 2), (), (M, True), False),
            (("get", 0, SEL_A), ("top", 0, 2, 2), (), (TOP_A, True), True),
            (("get", 0, SEL_A), ("top", 0, 2, 2), (), (A, True), False),
            (("get", 0, SEL_A), ("some", 0, 2, 2), (), (TOP_A, True), False),
            (("get", 0, SEL_A), ("some", 0, 2, 2), (), (A, True), True),
            (("cell", 0, ("number", 0)), ("some", 0, 2, 2), (), (("place", ("is", 0)), True), False),
            (("two", 0, "+", ("number", 0), ("number", 0)), ("some", 0, 2, 2), (), (A, True), False),
            # The inner place as it stands behind the steps tells the test, not as it stood ahead of them.
            (("get", 0, SEL_A), ("some", 0, 2, 2), ((0, B),), (B, True), False),
            (("get", 0, SEL_A), ("some", 1, 2, 2), ((1, B),), (B, True), True),
        ):
            self.assertIs(answered(step, on, inner, (pair,)), told, (step, on, pair))
            self.assertTrue(answered(step, on, inner, ()))

    def test_a_test_known_both_ways(self):
        room = [row([("get", 0, SEL_A)], ("some", 0, 1, 4)), row([("get", 0, SEL_A)], ("some", 0, 2, 3)), row([], NEXT),
                row([], ("done", ("stop",))), row([], ("done", ("back",)))]
        both = ((A, True), (A, False))
        paper = [(0, (), (), (), (1, 4)), (1, ((A, True),), (), (), (2, 3)), (2, ((A, True),), (), (), ()), (3, both, (), (), ()),
                 (4, ((A, False),), (), (), ())]
        self.assertTrue(answer("twice", room, paper))
        # What no row comes to needs no little row, and nothing of it is looked at but that it leads to none.
        self.assertTrue(answer("twice", room[:3] + [row([("get", 7, ("is", 3))], ("on", 7))] + room[4:], paper))
        self.assertTrue(answer("twice", room[:3] + [None] + room[4:], paper))
        self.assertFalse(answer("twice", room, paper[:3] + [(3, both, (), (), (4,))] + paper[4:]))
        self.assertFalse(answer("twice", room, paper[:3] + [(3, ((A, False),), (), (), ())] + paper[4:]))
        self.assertFalse(answer("twice", room, paper[:3] + [(4, both, (), (), ())] + paper[4:]))
        self.assertFalse(answer("twice", room, paper[:3] + [(3, both, ((0, B),), (), ())] + paper[4:]))
        self.assertTrue(answer("twice", room, paper[:3] + [(3, both, ((0, A),), (), ())] + paper[4:]))
        self.assertTrue(answer("twice", room, paper + [(300, both + ((B, True),), ((0, B),), (), ())]))
        self.assertFalse(answer("twice", room, paper + [(300, both, (), (), (5,))]))


class Ends(unittest.TestCase):
    def test_another_end(self):
        for end in (("next",), ("stop",), ("back",), ("fault", "odd")):
            self.assertIs(answer("none", [row([], ("done", end))], [(0, (), (), (), ())]), end == ("next",))
            self.assertIs(answer("k", with_row(5, row(ROOM[5][0], ("done", end))), PAPER), end == ("stop",))
        room = Choices.ROOM
        for at, told in ((1, ("go", 1)), (1, ("call", 0)), (3, ("go", 0)), (4, ("fault", "even")), (4, ("stop",))):
            self.assertFalse(answer("tops", room[:at] + [row([], ("done", told))] + room[at + 1:], Choices.PAPER))

    def test_other_sets(self):
        for step in (("put", SEL_A, ("in", 1)), ("put", SEL_B, ("in", 0)), ("put", ("by", 0), ("in", 1)), ("tell", ("is", 0), ("in", 1)),
                     ("store", ("in", 1), ("in", 1)), ("put", SEL_B, X)):
            self.assertFalse(answer("k", with_row(2, row([step], NEXT)), PAPER), step)
        self.assertFalse(answer("k", with_row(2, row([], NEXT)), PAPER))
        self.assertFalse(answer("none", [row([("put", SEL_A, ("number", 0))], NEXT)], [(0, (), (), (), ())]))

    def test_a_choice_that_known_does_not_decide(self):
        lone = lambda known: [(0, (), (), (), (1, 3))] + PAPER[1:] + [(2, known, ((1, SUM),), (), ())]
        self.assertTrue(answer("k", ROOM, lone(((A, True),))))
        self.assertTrue(answer("k", ROOM, lone(((B, False), (A, True)))))
        for known in ((), ((A, False),), ((B, True),), ((TOP_A, True),), ((("place", ("by", 0)), True),), ((M, True),)):
            self.assertFalse(answer("k", ROOM, lone(known)), known)


def known_behind(step, inner):
    """By the checker alone: what it takes as known of the inner place 0 behind a step, or None where it takes nothing."""
    room = [row([], NEXT), row([step], ("on", 2)), row([], NEXT)]
    terms = [A, B, M, ("place", ("by", 0)), ("cell", X), ("cell", A), ("+", A, X), ("+", X, A), ("<", X, X), ("-", ("number", 5), A),
             ("cell", ("cell", ("cell", A))), ("+", ("cell", ("cell", A)), X), ("number", 5)]
    found = []
    for term in terms:
        # The entry with the step is one to which none leads: so inner may be whatever is asked for.
        paper = [(0, (), (), (), ()), (1, (), inner, (), (2,)), (2, (), ((0, term),), (), ())]
        if answer("free", room, paper):
            found.append(term)
    assert len(found) < 2
    return found[0] if found else None


class KnownBehindSteps(unittest.TestCase):
    def test_what_is_known(self):
        for step, inner, term in (
            (("get", 0, SEL_A), (), A), (("get", 0, SEL_B), (), B), (("get", 0, ("by", 0)), (), ("place", ("by", 0))),
            (("ask", 0, ("is", 0)), (), M), (("cell", 0, X), (), ("cell", X)), (("cell", 0, ("in", 1)), ((1, A),), ("cell", A)),
            (("cell", 0, ("in", 1)), (), None), (("cell", 0, ("in", 1)), ((0, A), (2, A)), None),
            (("cell", 0, ("in", 0)), ((0, A),), ("cell", A)), (("two", 0, "+", ("in", 1), X), ((1, A),), ("+", A, X)),
            (("two", 0, "+", X, ("in", 1)), ((1, A),), ("+", X, A)), (("two", 0, "<", X, X), (), ("<", X, X)),
            (("two", 0, "+", ("in", 1), X), (), None), (("two", 0, "+", X, ("in", 1)), ((2, A),), None),
            (("two", 0, "-", ("number", 5), ("in", 2)), ((2, A),), ("-", ("number", 5), A)),
            (("two", 1, "+", X, X), ((0, A),), A),
            (("cell", 0, ("in", 1)), ((1, ("cell", ("cell", A))),), ("cell", ("cell", ("cell", A)))),
            (("cell", 0, ("in", 1)), ((1, ("cell", ("cell", ("cell", A)))),), None),
            (("two", 0, "+", ("in", 1), X), ((1, ("cell", ("cell", A))),), ("+", ("cell", ("cell", A)), X)),
            (("two", 0, "+", ("in", 1), X), ((1, ("+", ("cell", ("cell", A)), X)),), None),
            (("two", 0, "+", X, ("in", 1)), ((1, ("+", ("cell", ("cell", A)), X)),), None),
            # What was known of the inner place ahead of the step is known no more.
            (("get", 0, SEL_A), ((0, B),), A), (("cell", 0, ("in", 1)), ((0, B),), None), (("ask", 0, ("is", 0)), ((0, B),), M),
        ):
            self.assertEqual(known_behind(step, inner), term, (step, inner))

    def test_a_look_behind_what_was_given(self):
        # A place is got behind a put, a mark asked behind a tell, a cell looked at behind a store.
        given = {"place": ("place", SEL_B, X), "mark": ("mark", ("is", 0), X), "cell": ("cell", X, X)}
        looks = {"place": (("get", 0, SEL_A), A), "mark": (("ask", 0, ("is", 0)), M), "cell": (("cell", 0, X), ("cell", X))}
        leaf_of = {"place": "set b = x ;", "mark": "set m = x ;", "cell": "set [ x ] = x ;"}
        for ahead, put in given.items():
            table = read_table("word 8 ; cells 5 ; depth 1 ; places a b ; marks m ; gate ; kind k ( p place , x number ) { "
                               + leaf_of[ahead] + " next }")
            for look, (step, term) in looks.items():
                first = {"place": ("put", SEL_B, X), "mark": ("tell", ("is", 0), X), "cell": ("store", X, X)}[ahead]
                room = [row([first], ("on", 1)), row([step], ("on", 2)), row([], NEXT)]
                for inner, told in (((), True), (((0, term),), look != ahead)):
                    paper = [(0, (), (), (), (1,)), (1, (), (), (put,), (2,)), (2, (), inner, (put,), ())]
                    self.assertIs(lets_by(table, "k", [little_of(one) for one in room], 2, 0, paper), told, (ahead, look))
                    self.assertIs(oracle_papers.lets_by(table, "k", room, 2, 0, paper), told)

    def test_what_was_known_ahead_of_a_look_that_tells_nothing(self):
        table = read_table("word 8 ; cells 5 ; depth 1 ; places a b ; marks ; gate ; kind k ( ) { set b = 1 ; next }")
        put = ("place", SEL_B, ("number", 1))
        room = [row([("get", 0, SEL_A)], ("on", 1)), row([("put", SEL_B, ("number", 1))], ("on", 2)),
                row([("get", 0, SEL_A)], ("on", 3)), row([], NEXT)]
        for inner, told in (((), True), (((0, A),), False)):
            paper = [(0, (), (), (), (1,)), (1, (), ((0, A),), (), (2,)), (2, (), ((0, A),), (put,), (3,)), (3, (), inner, (put,), ())]
            self.assertIs(lets_by(table, "k", [little_of(one) for one in room], 2, 0, paper), told)

    def test_a_source_without_a_term(self):
        for step in (("put", SEL_A, ("in", 1)), ("tell", ("is", 0), ("in", 1)), ("store", ("in", 1), ("number", 0)),
                     ("store", ("number", 0), ("in", 1)), ("store", ("in", 1), ("in", 1))):
            put = {"put": ("place", SEL_A, A), "tell": ("mark", ("is", 0), A)}.get(step[0])
            if step[0] == "store":
                put = ("cell",) + tuple(A if part == ("in", 1) else part for part in step[1:])
            words = {"place": "set a = a", "mark": "set m = a"}.get(put[0])
            names = ["a" if part == A else "0" for part in put[1:]]
            words = words or f"set [ {names[0]} ] = {names[1]}"
            table = read_table("word 8 ; cells 5 ; depth 1 ; places a b ; marks m ; gate ; kind k ( ) { " + words + " ; next }")
            room = [row([("get", 1, SEL_A)], ("on", 1)), row([step], NEXT)]
            for inner, told in ((((1, A),), True), ((), False), (((0, A),), None)):
                first = (0, (), (), (), (1,))
                paper = [first, (1, (), inner, (), ())]
                self.assertIs(lets_by(table, "k", [little_of(one) for one in room], 2, 0, paper), bool(told), (step, inner))


def shaken(source, room, paper):
    """A room of told little rows and a paper, one thing of one of them put otherwise."""
    room, paper = list(room), list(paper)
    at = source.randrange(len(paper))
    address, known, inner, puts, nexts = paper[at]
    sort = source.randrange(14)
    if sort == 0:
        known = known[:-1] if source.random() < 0.5 else known + (((source.choice(["place", "mark", "top"]), some_sel(source)), True),)
    elif sort == 1:
        known = tuple((test, not truth) for test, truth in known)
    elif sort == 2:
        known = known + tuple((test, not truth) for test, truth in known[-1:])
        nexts = source.choice([nexts, ()])
    elif sort == 3:
        inner = inner[1:]
    elif sort == 4:
        inner = inner + ((7, some_e(source, 2)),) if source.random() < 0.5 else tuple((r, some_e(source, 2)) for r, _ in inner)
    elif sort == 5:
        puts = source.choice([puts[:-1], puts + puts[-1:], puts[::-1]])
    elif sort == 6:
        nexts = source.choice([nexts[::-1], nexts[:-1], nexts + nexts[-1:], tuple(number + 1 for number in nexts)])
    elif sort == 7:
        address = source.choice([address + 1, abs(address - 1), source.randrange(400)])
    elif sort == 8:
        paper.append(source.choice(paper))
    elif sort == 9 and len(paper) > 1:
        other = source.randrange(len(paper))
        paper[at], paper[other] = paper[other], paper[at]
        return room, paper
    else:
        steps, on = room[address]
        change = source.randrange(5)
        if change == 0:
            steps = steps[:-1]
        elif change == 1:
            steps = steps + (some_step(source, 3),)
        elif change == 2:
            on = some_on(source, 3, len(room))
        elif change == 3:
            on = on[:2] + on[2:][::-1]
        else:
            steps = steps[::-1]
        room[address] = (steps, on) if len(steps) <= 16 else None
        return room, paper
    paper[at] = (address, known, inner, puts, nexts)
    return room, paper


class AgainstTheSecondTelling(unittest.TestCase):
    def test_rooms_and_papers_changed_in_one_thing(self):
        source = random.Random(831)
        answers = {True: 0, False: 0}
        for _ in range(120):
            table = some_table(source, deep=3, choices=2, kinds=2)
            try:
                made = made_of(table, source.randint(2, 6), 400)
            except RowsError:
                continue
            kind = source.choice(table.kinds)
            paper, told = paper_of(made, kind), made.room_told()
            for _ in range(25):
                room, other = shaken(source, told, paper)
                rows = [None if one is None else little_of(one) for one in room]
                answer_told = lets_by(table, kind, rows, made.many, made.entry(kind), other)
                self.assertIs(answer_told, oracle_papers.lets_by(table, kind, room, made.many, made.entry(kind), other))
                answers[answer_told] += 1
        self.assertGreater(answers[True], 200)
        self.assertGreater(answers[False], 1000)


if __name__ == "__main__":
    unittest.main()
