"""Promises 126 to 128: two tables, alike by a paper or parted by a row and a state."""

import copy
import itertools
import random
import unittest

from rowsbeneath.above import State, row_done, state_of
from rowsbeneath.alike import alike, alike_holds
from rowsbeneath.errors import NotPlain, Unlike
from rowsbeneath.forms import chosen_of
from rowsbeneath.programs import is_row
from rowsbeneath.tabletext import read_table
from tests import oracle_forms
from tests.draws import PlainDrawing, some_row, some_state, with_a_kind_drawn_anew
from tests.helpers import ODD_THINGS, refuses
from tests.retold import got_at, leaves_at, put_at, same_deed, with_deeds

HEAD = "word 4 ; cells 5 ; depth 1 ; places a b ; marks m ; gate ; "
FIELDS = "p place , x number , r row"


def table(body, fields=FIELDS, head=HEAD):
    return read_table(head + f"kind k ( {fields} ) " + body)


def leaf(words, end="next"):
    return "{ " + words + f" ; {end} " + "}"


def some_plain(source, kinds=2, choices=3):
    drawing = PlainDrawing(source, kinds=kinds, choices=choices)
    return drawing, drawing.text()


class Tables(unittest.TestCase):
    def are_alike(self, one, other):
        """Looks that two tables are alike, either way round, by papers that hold."""
        for first, second in ((one, other), (other, one)):
            told = alike(first, second)
            self.assertEqual(told[0], "alike")
            self.assertEqual(len(told), 2)
            self.assertIs(alike_holds(first, second, told[1]), True)
            self.assertIs(alike_holds(second, first, told[1]), True)
            self.assertTrue(oracle_forms.paper_good(first, second, told[1]))
            self.assertEqual([entry[:2] for entry in told[1]], oracle_forms.choices(first))

    def are_parted(self, one, other):
        """Looks that two tables are parted, either way round, by a row and a state that part them."""
        for first, second in ((one, other), (other, one)):
            told = alike(first, second)
            self.assertEqual(told[0], "parted")
            _, row, state = told
            self.assertIsInstance(state, State)
            self.assertEqual((state.word, state.fault), ("on", None))
            self.assertTrue(is_row(first, row, 999))
            state_of(first, state.at, state.places, state.marks, state.cells, state.pile)
            self.assertNotEqual(row_done(first, state, row).told(), row_done(second, state, row).told())

    def test_the_same(self):
        for body in ("{ next }", leaf("set a = ( a + x )"), "{ if a { if top p { go r } else { call r } } else { back } }"):
            self.are_alike(table(body), table(body))

    def test_told_otherwise(self):
        for one, other in (
            ("set a = ( a + b )", "set a = ( b + a )"), ("set a = b", "set a = ( b + 0 )"), ("set a = ( a + a )", "set a = ( a << 1 )"),
            ("set a = ( a << 1 )", "set a = ( a << 5 )"), ("set a = 3", "set a = 5 ; set a = 3"), ("set a = [ 7 ]", "set a = [ 2 ]"),
            ("set [ 0 ] = 3", "set [ 15 ] = 3"), ("set m = 3", "set m = 9"), ("set a = ( a - b )", "set a = ( ( 0 - b ) + a )"),
            ("set [ a ] = [ a ]", "set b = b"), ("set a = a", "set m = m"), ("set b = ( ( a + x ) - a )", "set b = x"),
            ("set a = ( ( a + a ) << 3 )", "set a = 0"),
        ):
            self.are_alike(table(leaf(one)), table(leaf(other)))
        for one, other in (
            ("{ next }", "{ if a { next } else { next } }"), ("{ if a { next } else { stop } }", "{ if a { if a { next } else { back } } else { stop } }"),
            ("{ if a { next } else { stop } }", "{ if a { next } else { if top a { back } else { stop } } }"),
            ("{ if top a { next } else { stop } }", "{ if top a { if a { next } else { fault odd } } else { stop } }"),
            ("{ if a { if m { next } else { stop } } else { back } }", "{ if m { if a { next } else { back } } else { if a { stop } else { back } } }"),
            ("{ if a { set b = 1 ; next } else { set b = a ; next } }", "{ if a { set b = 1 ; next } else { set b = 0 ; next } }"),
            ("{ if a { set m = 1 ; next } else { set m = 0 ; next } }", leaf("set m = a")),
            ("{ if m { set a = 1 ; next } else { set a = 0 ; next } }", leaf("set a = m")),
            ("{ if a { next } else { set [ a ] = 3 ; next } }", "{ if a { next } else { set [ 0 ] = 3 ; next } }"),
            ("{ if p { next } else { stop } }", "{ if p { if p { next } else { back } } else { stop } }"),
        ):
            self.are_alike(table(one), table(other))

    def test_one_change(self):
        for one, other in (
            ("set a = ( a + b )", "set a = ( a - b )"), ("set a = b", "set a = ( b + 1 )"), ("set a = ( a + a )", "set a = ( a << 2 )"),
            ("set a = 3", "set a = 4"), ("set a = [ 7 ]", "set a = [ 3 ]"), ("set [ 0 ] = 3", "set [ 1 ] = 3"), ("set m = 3", "set m = 0"),
            ("set m = a", "set m = b"), ("set m = x", "set m = 1"), ("set m = a", "set m = 0"), ("set [ a ] = [ b ]", "set b = b"),
            ("set [ a ] = 5", "set [ b ] = 5"), ("set [ a ] = 5", "set [ x ] = 5"), ("set [ p ] = 5", "set [ 3 ] = 5"),
            ("set a = m", "set a = 0"), ("set a = p", "set a = a"), ("set p = 1", "set a = 1"), ("set a = [ a ]", "set a = [ b ]"),
            ("set a = ( [ a ] - [ x ] )", "set a = 0"), ("set a = ( a << 3 )", "set a = 0"), ("set [ a ] = ( [ a ] + [ b ] )", "set [ b ] = ( [ a ] + [ b ] )"),
            ("set [ a ] = ( ( [ a ] + [ b ] ) - [ x ] )", "set [ b ] = ( ( [ a ] + [ b ] ) - [ x ] )"),
            # These are parted only where both addresses are unlike, and a further thing is not 0.
            ("set [ a ] = ( [ a ] + x )", "set [ b ] = ( [ b ] + x )"), ("set [ a ] = ( [ a ] + m )", "set [ x ] = ( [ x ] + m )"),
            ("set [ a ] = ( [ a ] + b )", "set [ x ] = ( [ x ] + b )"), ("set [ 0 ] = ( [ 0 ] + m )", "set [ x ] = ( [ x ] + m )"),
            ("set [ a ] = ( [ a ] + ( [ b ] - [ 0 ] ) )", "set [ x ] = ( [ x ] + ( [ b ] - [ 0 ] ) )"),
        ):
            self.are_parted(table(leaf(one)), table(leaf(other)))
        for one, other in (
            ("{ if a { next } else { stop } }", "{ if b { next } else { stop } }"), ("{ if a { next } else { stop } }", "{ if top a { next } else { stop } }"),
            ("{ if a { next } else { stop } }", "{ if a { stop } else { next } }"), ("{ if p { next } else { stop } }", "{ if a { next } else { stop } }"),
            ("{ if a { set m = a ; next } else { next } }", "{ if a { set m = 0 ; next } else { next } }"),
            ("{ if top a { set b = a ; next } else { next } }", "{ if top a { set b = 8 ; next } else { next } }"),
            ("{ if a { if top a { next } else { set b = a ; next } } else { next } }", "{ if a { if top a { next } else { set b = 1 ; next } } else { next } }"),
        ):
            self.are_parted(table(one), table(other))

    def test_ends(self):
        ends = ["next", "go r", "go s", "call r", "call s", "back", "stop", "fault odd", "fault even"]
        for depth in (0, 1, 2):
            head = HEAD.replace("depth 1", f"depth {depth}")
            for one, other in itertools.product(ends, repeat=2):
                tables = [table("{ " + end + " }", "r row , s row", head) for end in (one, other)]
                # Where there is no pile each call is deep: which row it would go to is all the same.
                if one == other or depth == 0 and one[:4] == other[:4] == "call":
                    self.are_alike(*tables)
                else:
                    self.are_parted(*tables)

    def test_kinds_without_rows(self):
        bare = HEAD.replace("marks m", "marks")
        one, other = table("{ next }", "q mark", bare), table("{ stop }", "q mark", bare)
        self.assertEqual(alike(one, other), ("alike", []))
        self.assertIs(alike_holds(one, other, []), True)

    def test_drawn_tables_told_otherwise(self):
        source = random.Random(1261)
        for _ in range(150):
            _, text = some_plain(source)
            one = read_table(text)
            dead = ("leaf", (("place", ("is", 0), ("number", source.randrange(9))),), ("fault", "dead"))
            other = with_deeds(one, {kind: same_deed(source, one, one.deed(kind), dead) for kind in one.kinds})
            self.are_alike(one, other)
            for _ in range(5):
                state, row = some_state(source, one), some_row(source, one)
                self.assertEqual(row_done(one, state, row).told(), row_done(other, state, row).told())

    def test_drawn_tables_with_a_deed_drawn_anew(self):
        source = random.Random(1262)
        told = {"alike": 0, "parted": 0}
        for _ in range(300):
            drawing, text = some_plain(source, choices=2)
            one = read_table(text)
            if source.random() < 0.5:
                other = read_table(with_a_kind_drawn_anew(source, drawing, text)[0])
            else:
                kind = source.choice(one.kinds)
                way = source.choice(leaves_at(one.deed(kind)))
                _, sets, end = got_at(one.deed(kind), way)
                sets = tuple((sort, target, ("number", 1)) for sort, target, _ in sets)
                other = with_deeds(one, {kind: put_at(one.deed(kind), way, ("leaf", sets, end))})
            word = alike(one, other)[0]
            told[word] += 1
            {"alike": self.are_alike, "parted": self.are_parted}[word](one, other)
            if word == "alike":
                for _ in range(10):
                    state, row = some_state(source, one), some_row(source, one)
                    self.assertEqual(row_done(one, state, row).told(), row_done(other, state, row).told())
        self.assertGreater(min(told.values()), 20, told)

    def test_all_states_of_small_tables(self):
        source = random.Random(128)
        told = {"alike": 0, "parted": 0}
        head = "word 4 ; cells 4 ; depth 0 ; places a ; marks m ; gate ; "
        sums = ["a", "m", "x", "0", "1", "8", "( a + a )", "( a << 3 )", "( a - x )", "( m + m )", "( x << 1 )", "( m << 3 )"]
        singles = ["a", "m", "x", "0", "1"]
        def body(choices):
            if choices and source.random() < 0.7:
                return "{ if " + source.choice(["a", "top a", "m"]) + f" {body(choices - 1)} else {body(choices - 1)} " + "}"
            words = ["", f"set a = {source.choice(sums)} ;", f"set m = {source.choice(singles)} ;"]
            return "{ " + source.choice(words) + source.choice([" next", " next", " back"]) + " }"
        for _ in range(150):
            one, other = [table(body(2), "x number", head) for _ in range(2)]
            if source.random() < 0.4:
                other = with_deeds(one, {"k": same_deed(source, one, one.deed("k"), other.deed("k"), 1)}) if other.deed("k")[0] == "leaf" else one
            same = all(row_done(one, state_of(one, 0, [a], [m]), ("k", (x,))).told() == row_done(other, state_of(one, 0, [a], [m]), ("k", (x,))).told()
                       for a in range(16) for m in (0, 1) for x in (0, 1, 2, 7, 8, 15))
            word = alike(one, other)[0]
            self.assertEqual(word == "alike", same)
            told[word] += 1
        self.assertGreater(min(told.values()), 5, told)

    def test_unlike_cells_of_few(self):
        source = random.Random(1263)
        for _ in range(300):
            head = f"word 4 ; cells {source.choice([4, 4, 5, 64])} ; depth 0 ; places a b c ; marks ; gate ; "
            address = lambda: source.choice(["a", "b", "c", "x", "y", str(source.randrange(16))])
            def words():
                at = address()
                more = source.choice(["[ {} ]", "( [ {} ] + [ {} ] )", "( [ {} ] + ( [ {} ] - [ {} ] ) )", "( [ {} ] << 1 )", "( [ {} ] + ( [ {} ] << 3 ) )"])
                return f"set [ {at} ] = " + more.format(at, address(), address())
            test = source.choice(["a", "top a", "b"])
            bodies = ["{ if " + test + " " + leaf(words()) + " else { next } }" for _ in range(2)]
            one, other = [table(body, "x number , y number", head) for body in bodies]
            {"alike": self.are_alike, "parted": self.are_parted}[alike(one, other)[0]](one, other)


class Refusals(unittest.TestCase):
    PLAIN = "{ set a = b ; next }"
    OTHER = "{ set a = ( a & b ) ; next }"

    def tables(self, *bodies, head=HEAD):
        return read_table(head + " ".join(f"kind {name} ( ) {body}" for name, body in zip(("k", "l", "n"), bodies)))

    def test_unlike_ahead_of_not_plain(self):
        one = self.tables(self.PLAIN, self.OTHER)
        for old, new in (("word 4", "word 5"), ("cells 5", "cells 6"), ("depth 1", "depth 2"), ("places a b", "places a b c"),
                         ("marks m", "marks n"), ("gate", "gate m")):
            other = self.tables(self.PLAIN, self.PLAIN, head=HEAD.replace(old, new))
            for first, second in ((one, other), (other, one)):
                refuses(self, lambda: alike(first, second), Unlike, "shape")
                refuses(self, lambda: alike_holds(first, second, []), Unlike, "shape")
        refuses(self, lambda: alike(one, self.tables(self.PLAIN)), Unlike, "shape")

    def test_the_first_kind_that_is_not_plain(self):
        for bodies, others, kind in (
            ("PPO", "PPP", "n"), ("PPP", "PPO", "n"), ("POO", "PPP", "l"), ("PPO", "POP", "l"), ("OPP", "PPP", "k"), ("PPO", "OPP", "k"),
            ("OOO", "OOO", "k"), ("POP", "POP", "l"),
        ):
            one, other = [self.tables(*[self.PLAIN if word == "P" else self.OTHER for word in told]) for told in (bodies, others)]
            refuses(self, lambda: alike(one, other), NotPlain, kind)
            refuses(self, lambda: alike_holds(one, other, None), NotPlain, kind)
            refuses(self, lambda: alike_holds(one, other, []), NotPlain, kind)


def cases_at(case, way=()):
    """The ways to all cases within a case."""
    return [way] + (cases_at(case[2], way + (2,)) + cases_at(case[3], way + (3,)) if case[0] == "test" else [])


class Papers(unittest.TestCase):
    ONE = read_table(HEAD + "kind k ( p place , q mark ) { if p { if top a { set b = ( a + p ) ; next } else { set m = a ; next } } else { set [ p ] = q ; stop } } "
                     "kind l ( x number , r row ) { if m { set a = x ; go r } else { back } }")
    OTHER = read_table(HEAD + "kind k ( p place , q mark ) { if p { if top a { set b = ( p + a ) ; next } else { set m = a ; next } } else { set [ 0 ] = q ; stop } } "
                       "kind l ( x number , r row ) { if m { set a = ( 0 + x ) ; go r } else { back } }")

    def holds(self, paper):
        told = alike_holds(self.ONE, self.OTHER, paper)
        self.assertIs(told, oracle_forms.paper_good(self.ONE, self.OTHER, paper))
        self.assertIs(alike_holds(self.OTHER, self.ONE, paper), told)
        return told

    def setUp(self):
        word, self.paper = alike(self.ONE, self.OTHER)
        self.assertEqual(word, "alike")
        self.assertEqual(len(self.paper), 3)
        self.assertTrue(self.holds(self.paper))

    def test_things_of_all_kinds(self):
        for thing in ODD_THINGS + (tuple(self.paper), dict(enumerate(self.paper)), [None] * 3, [()] * 3, ["abc"] * 3, [[]] * 3, "abc", [self.ONE] * 3):
            self.assertFalse(self.holds(thing), thing)
            for at in range(3):
                self.assertFalse(self.holds(self.paper[:at] + [thing] + self.paper[at + 1:]))
                for part in range(3):
                    entry = self.paper[at][:part] + (thing,) + self.paper[at][part + 1:]
                    self.assertFalse(self.holds(self.paper[:at] + [entry] + self.paper[at + 1:]), (part, thing))

    def test_entries(self):
        paper = self.paper
        for wrong in ([], paper[:2], paper[1:], paper + paper[:1], paper[:1] + paper, [paper[1], paper[0], paper[2]], [paper[0]] * 3, paper[::-1],
                      [list(entry) for entry in paper], [paper[0], paper[0], paper[2]]):
            self.assertFalse(self.holds(wrong))
        for at in range(3):
            kind, chosen, case = paper[at]
            for entry in (("l" if kind == "k" else "k", chosen, case), (kind, list(chosen), case), (kind, chosen[:1], case), (kind, chosen + (None,), case),
                          (kind, chosen, list(case)), (kind, chosen), (kind, chosen, case, ()), (kind, chosen[::-1] if kind == "k" and at else (), case),
                          (kind, tuple(0 if one is None else one for one in chosen) if kind == "l" else (1 - chosen[0], 0), case)):
                self.assertFalse(self.holds(paper[:at] + [entry] + paper[at + 1:]), entry)

    def test_cases_wrong_in_one_thing(self):
        seen = 0
        for at in range(3):
            kind, chosen, case = self.paper[at]
            for way in cases_at(case):
                inner = got_at(case, way)
                if inner[0] == "test":
                    _, test, yes, no = inner
                    others = [(sort, number) for sort in ("place", "top", "mark", "cell") for number in (-1, 0, 1, 2)] + [None, (), test[:1], list(test), test + (0,)]
                    wrong = [("test", other, yes, no) for other in others if other != test]
                    wrong += [("test", test, no, yes), ("test", test, yes), ("test", test, yes, no, no), ["test", test, yes, no], ("leaf", test, yes, no),
                              ("test", test, ("test", test, yes, yes), no), ("test", test, yes, ("test", test, no, no)), yes, no, ("test", test, yes, yes)]
                else:
                    end, places, marks, cell = inner[1]
                    wrong = [("leaf", effect) for effect in (
                        (("stop",) if end != ("stop",) else ("next",), places, marks, cell), (end, places[::-1], marks, cell), (end, places, marks[::-1] + (("number", 0),), cell),
                        (end, places, marks, (("number", 1), (1, ())) if cell is None else None), (end, places, marks), list(inner[1]), (end, list(places), marks, cell),
                        (end, places, list(marks), cell), (list(end), places, marks, cell), None, (), (end, ((1, ()),) + places[1:], marks, cell))]
                    wrong += [["leaf", inner[1]], ("leaf",), ("leaf", inner[1], ()), ("leafs", inner[1]), inner[1], None]
                for other in wrong:
                    told = self.holds(self.paper[:at] + [(kind, chosen, put_at(case, way, other))] + self.paper[at + 1:])
                    seen += 1
                    # Another test may be asked, where both arms still are as they have to be; else nothing holds.
                    self.assertFalse(told and other[0] != "test", (way, other))
        self.assertGreater(seen, 100)

    def test_a_decided_test(self):
        kind, chosen, case = self.paper[0]
        self.assertEqual(case[:2], ("test", ("place", 0)))
        def with_case(new):
            return [(kind, chosen, new)] + self.paper[1:]
        self.assertFalse(self.holds(with_case(("test", ("place", 0), ("test", ("place", 0), case[2], case[2]), case[3]))))
        self.assertFalse(self.holds(with_case(("test", ("place", 0), case[2], ("test", ("top", 0), case[3], case[3])))))
        self.assertFalse(self.holds(with_case(("test", ("top", 0), ("test", ("place", 0), case[2][2], case[3]), case[3]))))

    def test_a_further_test(self):
        kind, chosen, case = self.paper[2]
        # Asking more than is needed holds, where the effects are those that are then known.
        for number in (0, 1):
            def known(told):
                """The case with the place of this number known to be 0."""
                if told[0] == "test":
                    return told[:2] + (known(told[2]), known(told[3]))
                end, places, marks, cell = told[1]
                return ("leaf", (end, tuple((0, ()) if form == (0, ((("place", number), 1),)) else form for form in places), marks, cell))
            self.assertTrue(self.holds(self.paper[:2] + [(kind, chosen, ("test", ("place", number), case, known(case)))]))
            self.assertFalse(self.holds(self.paper[:2] + [(kind, chosen, ("test", ("place", number), case, case))]))
            self.assertTrue(self.holds(self.paper[:2] + [(kind, chosen, ("test", ("top", number), case, case))]))

    def test_tests_of_what_the_table_has_not(self):
        kind, chosen, case = self.paper[2]
        for test, told in ((("top", 0), True), (("top", 1), True), (("top", 2), False), (("top", 3), False), (("place", 2), False), (("mark", 1), False),
                           (("mark", 2), False), (("top", -1), False), (("top", True), False), (("top", None), False), (("mark", -1), False),
                           (("cell", 0), False), (("top",), False), (("top", 0, 0), False), (["top", 0], False), (None, False)):
            self.assertIs(self.holds(self.paper[:2] + [(kind, chosen, ("test", test, case, case))]), told, test)

    def test_truths_are_no_numbers(self):
        kind, chosen, case = self.paper[1]
        self.assertEqual(chosen, (1, 0))
        self.assertFalse(self.holds([self.paper[0], (kind, (True, 0), case), self.paper[2]]))
        leaf_at = [way for way in cases_at(case) if got_at(case, way)[0] == "leaf"]
        for way in leaf_at:
            end, places, marks, cell = got_at(case, way)[1]
            self.assertFalse(self.holds([self.paper[0], (kind, chosen, put_at(case, way, ("leaf", (end, ((False, places[0][1]),) + places[1:], marks, cell)))),
                                         self.paper[2]]))

    def test_what_is_handed_in_stays(self):
        kept = copy.deepcopy(self.paper)
        self.holds(self.paper)
        self.assertEqual(self.paper, kept)
        self.paper.clear()
        self.assertEqual(alike(self.ONE, self.OTHER)[1], kept)

    def test_papers_of_other_tables(self):
        source = random.Random(127)
        counts = {True: 0, False: 0}
        for _ in range(150):
            _, text = some_plain(source)
            one = read_table(text)
            dead = ("leaf", (), ("fault", "dead"))
            other = with_deeds(one, {kind: same_deed(source, one, one.deed(kind), dead) for kind in one.kinds})
            kind = source.choice(one.kinds)
            way = source.choice(leaves_at(one.deed(kind)))
            third = with_deeds(one, {kind: put_at(one.deed(kind), way, dead)})
            paper = alike(one, other)[1]
            for first, second in ((one, one), (other, other), (one, other), (one, third), (third, other), (third, third)):
                told = alike_holds(first, second, paper)
                self.assertIs(told, oracle_forms.paper_good(first, second, paper))
                counts[told] += 1
                if told:
                    self.assertEqual(alike(first, second)[0], "alike")
        self.assertGreater(min(counts.values()), 100)

    def test_all_chosen(self):
        for kind in self.ONE.kinds:
            told = [chosen for name, chosen, _ in self.paper if name == kind]
            self.assertEqual(told, chosen_of(self.ONE, kind))


if __name__ == "__main__":
    unittest.main()
