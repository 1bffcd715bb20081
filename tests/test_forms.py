"""Promises 121 to 125: plain kinds, chosen, known, the forms of sums and the effects of leaves."""

import itertools
import random
import unittest

from rowsbeneath.above import end_given, row_done, state_of
from rowsbeneath.errors import NoKind
from rowsbeneath.forms import chosen_of, decided, effect_of, form_of, is_plain
from rowsbeneath.tabletext import read_table
from tests import oracle_forms
from tests.draws import PlainDrawing, some_row, some_state, some_table
from tests.helpers import ODD_THINGS, refuses
from tests.oracle_above import leaf as leaf_led
from tests.oracle_above import value

HEAD = "word 4 ; cells 5 ; depth 1 ; places a b ; marks m n ; gate ; "
FIELDS = "p place , q mark , x number"
A, B, M, N = ("place", ("is", 0)), ("place", ("is", 1)), ("mark", ("is", 0)), ("mark", ("is", 1))
X = ("field", 2)


def plain(body, fields=FIELDS, head=HEAD):
    table = read_table(head + f"kind k ( {fields} ) " + body)
    told = is_plain(table, "k")
    assert told is oracle_forms.plain(table, "k")
    return told


def leaf(words):
    return "{ " + words + " ; next }"


class Plain(unittest.TestCase):
    SUMS = ("0", "15", "x", "a", "p", "m", "q", "[ 3 ]", "[ x ]", "[ a ]", "[ p ]", "( a + m )", "( [ a ] - ( q + 1 ) )", "( a << 3 )",
            "( ( a - b ) << 15 )", "( ( 1 << 2 ) << 0 )", "( ( a + b ) - ( a - [ b ] ) )")
    OTHERS = ("[ m ]", "[ q ]", "[ [ a ] ]", "[ ( a + 1 ) ]", "( a & b )", "( a | 0 )", "( a ^ a )", "( a >> 1 )", "( a < b )", "( a = b )",
              "( a << b )", "( 1 << x )", "( a << ( 1 + 1 ) )", "( a << [ 1 ] )", "( a + ( b & 1 ) )", "( ( b >> 1 ) - a )",
              "( ( a < b ) << 1 )", "( a + [ m ] )", "( a << m )")

    def test_what_places_and_cells_become(self):
        for target in ("a", "p", "[ 1 ]", "[ x ]", "[ a ]", "[ p ]"):
            for e in self.SUMS:
                self.assertTrue(plain(leaf(f"set {target} = {e}")), e)
            for e in self.OTHERS:
                self.assertFalse(plain(leaf(f"set {target} = {e}")), e)

    def test_addresses_of_cells_that_are_set(self):
        for address in ("m", "q", "[ a ]", "( a + 0 )", "( a << 1 )"):
            self.assertFalse(plain(leaf(f"set [ {address} ] = 1")), address)

    def test_what_marks_become(self):
        for target in ("m", "q"):
            for e in ("0", "1", "9", "x", "a", "p", "n", "q"):
                self.assertTrue(plain(leaf(f"set {target} = {e}")), e)
            for e in ("[ 1 ]", "[ a ]", "( a + b )", "( a - 0 )", "( a << 1 )", "( a = b )"):
                self.assertFalse(plain(leaf(f"set {target} = {e}")), e)

    def test_all_leaves_and_all_sets(self):
        good, bad = "set a = b ; ", "set a = ( a & b ) ; "
        for at in range(4):
            bodies = ["{ " + (bad if at == other else good) + "next }" for other in range(4)]
            self.assertFalse(plain("{ if a { if m " + bodies[0] + " else " + bodies[1] + " } else { if top p " + bodies[2]
                                   + " else " + bodies[3] + " } }"))
            sets = [bad if at == other else good for other in range(4)]
            self.assertFalse(plain("{ " + "".join(sets) + "next }"))
        self.assertTrue(plain("{ if a { if q { next } else { back } } else { if top p { stop } else { fault odd } } }"))
        self.assertTrue(plain("{ next }"))

    def test_drawn_tables(self):
        source = random.Random(121)
        told = set()
        for _ in range(200):
            for table in (some_table(source, deep=2), read_table(PlainDrawing(source).text())):
                for kind in table.kinds:
                    told.add(is_plain(table, kind))
                    self.assertIs(is_plain(table, kind), oracle_forms.plain(table, kind))
        self.assertEqual(told, {True, False})

    def test_no_kind(self):
        table = read_table(HEAD + "kind k ( ) { next }")
        for thing in ODD_THINGS + ("K", "kk", ("k",), 0):
            refuses(self, lambda: is_plain(table, thing), NoKind, thing)
            refuses(self, lambda: chosen_of(table, thing), NoKind, thing)


class Chosen(unittest.TestCase):
    def chosen(self, fields, head=HEAD):
        return chosen_of(read_table(head + f"kind k ( {fields} ) " + "{ next }"), "k")

    def test_chosen(self):
        self.assertEqual(self.chosen(""), [()])
        self.assertEqual(self.chosen("x number , r row"), [(None, None)])
        self.assertEqual(self.chosen("p place"), [(0,), (1,)])
        self.assertEqual(self.chosen("q mark"), [(0,), (1,)])
        self.assertEqual(self.chosen("p place , x number , q mark"), [(0, None, 0), (0, None, 1), (1, None, 0), (1, None, 1)])
        three = HEAD.replace("places a b", "places a b c").replace("marks m n", "marks m")
        self.assertEqual(self.chosen("p place , q mark , s place", three), [
            (0, 0, 0), (0, 0, 1), (0, 0, 2), (1, 0, 0), (1, 0, 1), (1, 0, 2), (2, 0, 0), (2, 0, 1), (2, 0, 2)])
        four = HEAD.replace("places a b", "places a b c d")
        self.assertEqual(self.chosen("p place , q place , s place", four), list(itertools.product(range(4), repeat=3)))

    def test_a_mark_in_a_table_without_marks(self):
        bare = HEAD.replace("marks m n", "marks")
        self.assertEqual(self.chosen("q mark", bare), [])
        self.assertEqual(self.chosen("p place , q mark , x number", bare), [])
        self.assertEqual(self.chosen("p place , x number", bare), [(0, None), (1, None)])

    def test_told_anew(self):
        table = read_table(HEAD + "kind k ( p place ) { next }")
        chosen_of(table, "k").clear()
        self.assertEqual(len(chosen_of(table, "k")), 2)


class Decided(unittest.TestCase):
    TESTS = [(sort, number) for sort in ("place", "mark", "top") for number in (0, 1)]

    def test_each_test_by_one_pair(self):
        for test in self.TESTS:
            self.assertIsNone(decided((), test))
            for other in self.TESTS:
                for truth in (True, False):
                    told = decided(((other, truth),), test)
                    if test == other:
                        self.assertIs(told, truth)
                    elif (other[0], truth, test[0]) == ("top", True, "place") and other[1] == test[1]:
                        self.assertIs(told, True)
                    elif (other[0], truth, test[0]) == ("place", False, "top") and other[1] == test[1]:
                        self.assertIs(told, False)
                    else:
                        self.assertIsNone(told, (test, other, truth))

    def test_by_several(self):
        known = ((("place", 0), True), (("top", 0), False), (("mark", 0), False), (("top", 1), True))
        told = [True, True, False, None, False, True]
        self.assertEqual([decided(known, test) for test in self.TESTS], told)
        self.assertEqual([decided(known[::-1], test) for test in self.TESTS], told)
        self.assertIs(decided(((("top", 0), False), (("place", 0), False)), ("place", 0)), False)
        self.assertIs(decided(((("place", 0), True), (("top", 0), True)), ("top", 0)), True)


TABLE = read_table(HEAD + f"kind k ( {FIELDS} ) " + "{ next }")


def form(e, known=(), chosen=(1, 0, None), table=TABLE):
    told = form_of(table, chosen, known, e)
    assert told == oracle_forms.form(table, chosen, known, e), e
    return told


class Forms(unittest.TestCase):
    def test_one_part(self):
        self.assertEqual(form(("number", 0)), (0, ()))
        self.assertEqual(form(("number", 15)), (15, ()))
        self.assertEqual(form(X), (0, ((X, 1),)))
        self.assertEqual(form(A), (0, ((("place", 0), 1),)))
        self.assertEqual(form(("place", ("by", 0))), (0, ((("place", 1), 1),)))
        self.assertEqual(form(("mark", ("by", 1)), chosen=(0, 1, None)), (0, ((("mark", 1), 1),)))

    def test_decided_places_and_marks(self):
        for known, told in (((("place", 0), False), (0, ())), ((("place", 0), True), (0, ((("place", 0), 1),))),
                            ((("top", 0), False), (0, ((("place", 0), 1),))), ((("top", 0), True), (0, ((("place", 0), 1),)))):
            self.assertEqual(form(A, (known,)), told)
        self.assertEqual(form(M, ((("mark", 0), True),)), (1, ()))
        self.assertEqual(form(M, ((("mark", 0), False),)), (0, ()))
        self.assertEqual(form(N, ((("mark", 0), False),)), (0, ((("mark", 1), 1),)))
        self.assertEqual(form(("place", ("by", 0)), ((("place", 1), False),)), (0, ()))

    def test_cells(self):
        for address, told in ((("number", 4), ("number", 4)), (("number", 5), ("number", 0)), (("number", 14), ("number", 4)), (X, X),
                              (A, ("place", 0)), (("place", ("by", 0)), ("place", 1))):
            self.assertEqual(form(("cell", address)), (0, ((("cell", told), 1),)))
        self.assertEqual(form(("cell", A), ((("place", 0), False),)), (0, ((("cell", ("number", 0)), 1),)))
        self.assertEqual(form(("cell", A), ((("top", 0), False), (("place", 0), False))), (0, ((("cell", ("number", 0)), 1),)))
        self.assertEqual(form(("cell", A), ((("place", 0), True),)), (0, ((("cell", ("place", 0)), 1),)))
        self.assertEqual(form(("+", ("cell", ("number", 0)), ("cell", ("number", 5)))), (0, ((("cell", ("number", 0)), 2),)))

    def test_sums(self):
        plus = lambda one, other: ("+", one, other)
        less = lambda one, other: ("-", one, other)
        self.assertEqual(form(plus(("number", 9), ("number", 8))), (1, ()))
        self.assertEqual(form(less(("number", 1), ("number", 3))), (14, ()))
        self.assertEqual(form(plus(A, A)), (0, ((("place", 0), 2),)))
        self.assertEqual(form(("<<", A, ("number", 1))), form(plus(A, A)))
        self.assertEqual(form(less(A, A)), (0, ()))
        self.assertEqual(form(less(("number", 0), A)), (0, ((("place", 0), 15),)))
        self.assertEqual(form(plus(less(A, B), B)), form(A))
        self.assertEqual(form(("<<", A, ("number", 3))), (0, ((("place", 0), 8),)))
        self.assertEqual(form(("<<", ("<<", A, ("number", 3)), ("number", 1))), (0, ()))
        self.assertEqual(form(("<<", A, ("number", 4))), form(A))
        self.assertEqual(form(("<<", A, ("number", 13))), form(plus(A, A)))
        self.assertEqual(form(("<<", plus(A, ("number", 5)), ("number", 2))), (4, ((("place", 0), 4),)))
        self.assertEqual(form(("<<", plus(M, M), ("number", 0)), ((("mark", 0), True),)), (2, ()))

    def test_atoms_rise(self):
        e = ("+", ("+", ("+", B, A), ("+", N, M)), ("+", ("+", X, ("cell", B)), ("+", ("cell", ("number", 2)), ("cell", X))))
        atoms = [("cell", X), ("cell", ("number", 2)), ("cell", ("place", 1)), X, ("mark", 0), ("mark", 1), ("place", 0), ("place", 1)]
        self.assertEqual(form(e), (0, tuple((atom, 1) for atom in atoms)))

    def test_worth_in_drawn_states(self):
        source = random.Random(124)
        for table, kind, chosen, known, led in drawn_leaves(source, 250):
            for _, target, e in led[1]:
                self.assertEqual(form_of(table, chosen, known, e), oracle_forms.form(table, chosen, known, e))
                for state, row in led_states(source, table, kind, chosen, known, 3):
                    number, parts = form_of(table, chosen, known, e)
                    worth = number + sum(atom_worth(table, state, row, atom) * times for atom, times in parts)
                    self.assertEqual(worth % 2 ** table.width, value(table, state.told(), row[1], e))


def atom_worth(table, state, row, atom):
    if atom[0] == "cell":
        inner = atom[1]
        address = inner[1] if inner[0] == "number" else atom_worth(table, state, row, inner)
        return state.cells[address % table.cells]
    return {"field": row[1], "mark": state.marks, "place": state.places}[atom[0]][atom[1]]


def drawn_leaves(source, tables):
    """Leaves of drawn plain kinds, with a chosen and what is known on the way to them: (table, kind, chosen, known, leaf)."""
    for _ in range(tables):
        table = read_table(PlainDrawing(source, kinds=2).text())
        kind = source.choice(table.kinds)
        choices = chosen_of(table, kind)
        if not choices:
            continue
        chosen = source.choice(choices)
        deed, known = table.deed(kind), ()
        while deed[0] == "if":
            test = (deed[1][0], oracle_forms.place_of(chosen, deed[1][1]))
            truth = oracle_forms.decides(known, test)
            if truth is None:
                truth = source.random() < 0.5
                known += ((test, truth),)
            deed = deed[2] if truth else deed[3]
        yield table, kind, chosen, known, deed


def led_states(source, table, kind, chosen, known, many):
    """Drawn states, with rows of this chosen, in which what is known is so."""
    for _ in range(many):
        state = some_state(source, table)
        operands = tuple(told if one is None else one for told, one in zip(some_row(source, table, kind=kind)[1], chosen))
        high = 2 ** (table.width - 1)
        for number in range(len(table.places)):
            words = [word for word in (state.places[number], 0, 1, high, high + 3) if all(
                (word >= high if sort == "top" else word > 0) is truth for (sort, at), truth in known if at == number and sort != "mark")]
            state.places[number] = words[0]
        for (sort, number), truth in known:
            if sort == "mark":
                state.marks[number] = int(truth)
        yield state, (kind, operands)


class Effects(unittest.TestCase):
    def effect(self, body, known=(), chosen=(1, 0, None), head=HEAD, fields=FIELDS):
        table = read_table(head + f"kind k ( {fields} ) " + body)
        told = effect_of(table, chosen, known, table.deed("k"))
        self.assertEqual(told, oracle_forms.effect(table, chosen, known, table.deed("k")))
        return told

    A_B = ((0, ((("place", 0), 1),)), (0, ((("place", 1), 1),)))
    M_N = (("mark", 0), ("mark", 1))

    def test_nothing_set(self):
        self.assertEqual(self.effect("{ next }"), (("next",), self.A_B, self.M_N, None))
        known = ((("place", 0), False), (("mark", 1), True), (("mark", 0), False))
        self.assertEqual(self.effect("{ next }", known), (("next",), ((0, ()), self.A_B[1]), (("number", 0), ("number", 1)), None))

    def test_places(self):
        self.assertEqual(self.effect(leaf("set a = 3 ; set a = b"))[1], (self.A_B[1], self.A_B[1]))
        self.assertEqual(self.effect(leaf("set b = 3 ; set p = a"))[1], (self.A_B[0], self.A_B[0]))
        self.assertEqual(self.effect(leaf("set p = a ; set b = 3"))[1], (self.A_B[0], (3, ())))
        self.assertEqual(self.effect(leaf("set a = a"))[1], self.A_B)
        self.assertEqual(self.effect(leaf("set a = ( a + 0 )"))[1], self.A_B)
        self.assertEqual(self.effect(leaf("set a = ( b + 1 )"), ((("place", 1), False),))[1], ((1, ()), (0, ())))

    def test_marks(self):
        for e, told in (("0", ("number", 0)), ("1", ("number", 1)), ("9", ("number", 1)), ("x", ("field", 2)), ("a", ("place", 0)),
                        ("p", ("place", 1)), ("n", ("mark", 1)), ("q", ("mark", 0)), ("m", ("mark", 0))):
            self.assertEqual(self.effect(leaf(f"set m = {e}"))[2], (told, ("mark", 1)), e)
            self.assertEqual(self.effect(leaf(f"set m = 5 ; set q = {e}"))[2], (told, ("mark", 1)), e)
            self.assertEqual(self.effect(leaf(f"set q = {e} ; set m = 0"))[2], (("number", 0), ("mark", 1)), e)
        for known, told in ((("place", 0), True), ("number", 1)), ((("place", 0), False), ("number", 0)), ((("top", 0), True), ("number", 1)), (
                (("top", 0), False), ("place", 0)):
            self.assertEqual(self.effect(leaf("set n = a"), (known,))[2], (("mark", 0), told))
        for truth in (True, False):
            self.assertEqual(self.effect(leaf("set n = m"), ((("mark", 0), truth),))[2], (("number", int(truth)), ("number", int(truth))))

    def test_cells(self):
        cell = lambda words, known=(): self.effect(leaf(words), known)[3]
        self.assertEqual(cell("set [ 7 ] = 3"), (("number", 2), (3, ())))
        self.assertEqual(cell("set [ x ] = a"), (X, self.A_B[0]))
        self.assertEqual(cell("set [ p ] = a"), (("place", 1), self.A_B[0]))
        self.assertEqual(cell("set [ a ] = 1", ((("place", 0), False),)), (("number", 0), (1, ())))
        self.assertIsNone(cell("set [ 7 ] = [ 2 ]"))
        self.assertIsNone(cell("set [ a ] = ( [ a ] + 0 )"))
        self.assertIsNone(cell("set [ p ] = [ b ]"))
        self.assertIsNone(cell("set [ a ] = [ 5 ]", ((("place", 0), False),)))
        self.assertEqual(cell("set [ a ] = [ b ]"), (("place", 0), (0, ((("cell", ("place", 1)), 1),))))
        self.assertEqual(cell("set [ 2 ] = ( [ 2 ] + [ 2 ] )"), (("number", 2), (0, ((("cell", ("number", 2)), 2),))))
        self.assertIsNone(cell("set a = 1"))

    def test_ends(self):
        fields = "r row , s row"
        for depth in (0, 1, 8):
            head = HEAD.replace("depth 1", f"depth {depth}")
            for words, end in (("next", ("next",)), ("go s", ("go", 1)), ("stop", ("stop",)), ("fault odd", ("fault", "odd")),
                               ("call r", ("call", 0) if depth else ("fault", "deep")), ("back", ("back",) if depth else ("fault", "bare"))):
                self.assertEqual(self.effect("{ " + words + " }", (), (None, None), head, fields)[0], end)

    def test_against_rows_in_drawn_states(self):
        source = random.Random(125)
        for table, kind, chosen, known, led in drawn_leaves(source, 250):
            told = effect_of(table, chosen, known, led)
            self.assertEqual(told, oracle_forms.effect(table, chosen, known, led))
            for state, row in led_states(source, table, kind, chosen, known, 3):
                self.assertEqual(leaf_led(table, state.told(), row[1], table.deed(kind)), led)
                self.assertEqual(self.behind(table, state, row, told), row_done(table, state, row).told())

    def behind(self, table, state, row, effect):
        """The told state behind an effect."""
        end, places, marks, cell = effect
        worth = lambda form: (form[0] + sum(atom_worth(table, state, row, atom) * times for atom, times in form[1])) % 2 ** table.width
        cells = list(state.cells)
        if cell is not None:
            address = cell[0][1] if cell[0][0] == "number" else atom_worth(table, state, row, cell[0])
            cells[address % table.cells] = worth(cell[1])
        bits = [told[1] if told[0] == "number" else min(1, atom_worth(table, state, row, told)) for told in marks]
        new = state_of(table, state.at, [worth(form) for form in places], bits, cells, state.pile)
        if end in (("fault", "deep"), ("fault", "bare")):
            new.word, new.fault = end
        else:
            end_given(table, new, end, row[1])
        return new.told()


if __name__ == "__main__":
    unittest.main()
