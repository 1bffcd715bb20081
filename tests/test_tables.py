"""Promises 3 and 26 to 28: what a table tells, and a table shown."""

import unittest

from rowsbeneath.errors import NoKind
from rowsbeneath.sums import ops_told
from rowsbeneath.tables import Table
from rowsbeneath.tabletext import read_table, show_table
from tests.helpers import ODD_THINGS, refusal_of, with_body, with_word

TEXT = """word 12;cells 20;depth 3;places acc idx;marks carry busy;gate busy;
kind add(p place,n number,r row){
 if top p{set p=(p+n);set [(acc<<1)]=[[idx]];set carry=(p<n);go r}
 else{if carry{set p=n;call r}else{if p{fault odd}else{back}}}}
kind flip(q mark){if q{set q=0;next}else{set q=busy;set idx=q;stop}}
kind none(){next}"""

SHOWN = """word 12 ; cells 20 ; depth 3 ; places acc idx ; marks carry busy ; gate busy ;
kind add ( p place , n number , r row ) { if top p { set p = ( p + n ) ; set [ ( acc << 1 ) ] = [ [ idx ] ] ; \
set carry = ( p < n ) ; go r } else { if carry { set p = n ; call r } else { if p { fault odd } else { back } } } }
kind flip ( q mark ) { if q { set q = 0 ; next } else { set q = busy ; set idx = q ; stop } }
kind none ( ) { next }"""

P = ("place", ("by", 0))
ADD = (
    "if", ("top", ("by", 0)),
    ("leaf", (
        ("place", ("by", 0), ("+", P, ("field", 1))),
        ("cell", ("<<", ("place", ("is", 0)), ("number", 1)), ("cell", ("cell", ("place", ("is", 1))))),
        ("mark", ("is", 0), ("<", P, ("field", 1))),
    ), ("go", 2)),
    ("if", ("mark", ("is", 0)),
     ("leaf", (("place", ("by", 0), ("field", 1)),), ("call", 2)),
     ("if", P, ("leaf", (), ("fault", "odd")), ("leaf", (), ("back",)))),
)
FLIP = (
    "if", ("mark", ("by", 0)),
    ("leaf", (("mark", ("by", 0), ("number", 0)),), ("next",)),
    ("leaf", (("mark", ("by", 0), ("mark", ("is", 1))), ("place", ("is", 1), ("mark", ("by", 0)))), ("stop",)),
)
ADD_FIELDS = (("p", "place"), ("n", "number"), ("r", "row"))


def is_told_plainly(thing):
    """Whether a thing is made of tuples, texts, whole numbers and None alone."""
    if type(thing) is tuple:
        return all(is_told_plainly(part) for part in thing)
    return thing is None or type(thing) in (int, str)


class WhatATableTells(unittest.TestCase):
    def test_values(self):
        table = read_table(TEXT)
        self.assertIsInstance(table, Table)
        self.assertEqual((table.width, table.cells, table.depth), (12, 20, 3))
        self.assertEqual((table.places, table.marks), (("acc", "idx"), ("carry", "busy")))
        self.assertEqual((table.gate, table.kinds), ("busy", ("add", "flip", "none")))

    def test_without_marks_and_gate(self):
        table = read_table("word 4 ; cells 4 ; depth 0 ; places a ; marks ; gate ; kind k ( ) { stop }")
        self.assertEqual(table.told(), (4, 4, 0, ("a",), (), None, (("k", (), ("leaf", (), ("stop",))),)))
        table = read_table("word 4 ; cells 4 ; depth 0 ; places a ; marks x y z ; gate ; kind k ( ) { stop }")
        self.assertEqual((table.marks, table.gate), (("x", "y", "z"), None))

    def test_fields(self):
        table = read_table(TEXT)
        self.assertEqual(table.fields_of("add"), ADD_FIELDS)
        self.assertEqual(table.fields_of("flip"), (("q", "mark"),))
        self.assertEqual(table.fields_of("none"), ())

    def test_deeds(self):
        table = read_table(TEXT)
        self.assertEqual(table.deed("add"), ADD)
        self.assertEqual(table.deed("flip"), FLIP)
        self.assertEqual(table.deed("none"), ("leaf", (), ("next",)))

    def test_told(self):
        told = read_table(TEXT).told()
        kinds = (("add", ADD_FIELDS, ADD), ("flip", (("q", "mark"),), FLIP), ("none", (), ("leaf", (), ("next",))))
        self.assertEqual(told, (12, 20, 3, ("acc", "idx"), ("carry", "busy"), "busy", kinds))
        self.assertTrue(is_told_plainly(told))

    def test_each_operation(self):
        for op in ops_told():
            table = read_table(with_word(f"( n {op} 3 )"))
            e = table.deed("add")[1][0][2]
            self.assertEqual(e, (op, ("field", 0), ("number", 3)))

    def test_each_sel(self):
        fields = "x mark , p place , n number"
        for name, told in (("a", ("place", ("is", 0))), ("b", ("place", ("is", 1))), ("m", ("mark", ("is", 0))),
                           ("x", ("mark", ("by", 0))), ("p", ("place", ("by", 1))), ("n", ("field", 2))):
            deed = read_table(with_body("{ set [ " + name + " ] = [ " + name + " ] ; next }", fields)).deed("add")
            self.assertEqual(deed, ("leaf", (("cell", told, ("cell", told)),), ("next",)))
            if name != "n":
                deed = read_table(with_body("{ if " + name + " { next } else { stop } }", fields)).deed("add")
                self.assertEqual(deed, ("if", told, ("leaf", (), ("next",)), ("leaf", (), ("stop",))))
                deed = read_table(with_body("{ set " + name + " = 5 ; next }", fields)).deed("add")
                self.assertEqual(deed, ("leaf", ((*told, ("number", 5)),), ("next",)))
        for name, sel in (("a", ("is", 0)), ("b", ("is", 1)), ("p", ("by", 1))):
            deed = read_table(with_body("{ if top " + name + " { next } else { stop } }", fields)).deed("add")
            self.assertEqual(deed[1], ("top", sel))

    def test_each_end(self):
        for end, told in (("next", ("next",)), ("go s", ("go", 2)), ("go r", ("go", 0)), ("call s", ("call", 2)),
                          ("back", ("back",)), ("stop", ("stop",)), ("fault a", ("fault", "a"))):
            table = read_table(with_body("{ " + end + " }", "r row , n number , s row"))
            self.assertEqual(table.deed("add"), ("leaf", (), told))

    def test_sets_in_their_order(self):
        table = read_table(with_body("{ set b = 1 ; set m = 2 ; set b = 3 ; set [ 4 ] = 5 ; next }"))
        self.assertEqual(table.deed("add")[1], (
            ("place", ("is", 1), ("number", 1)), ("mark", ("is", 0), ("number", 2)),
            ("place", ("is", 1), ("number", 3)), ("cell", ("number", 4), ("number", 5))))

    def test_no_kind(self):
        table = read_table(TEXT)
        others = ("ad", "adds", "Add", "acc", "carry", "p", "kind", "add ", ("add",), {"add": 1}, b"add", table, 0, 1, 2)
        for thing in ODD_THINGS + others:
            for asked in (table.fields_of, table.deed):
                refusal = refusal_of(lambda: asked(thing))
                self.assertIs(type(refusal), NoKind)
                self.assertIs(refusal.name, thing)

    def test_spelled_otherwise(self):
        self.assertEqual(read_table(TEXT).told(), read_table(SHOWN).told())
        self.assertEqual(read_table("\n " + TEXT.replace(";", " \n; ")).told(), read_table(TEXT).told())
        self.assertNotEqual(read_table(TEXT.replace("q=0", "q=1")).told(), read_table(TEXT).told())
        self.assertNotEqual(read_table(TEXT.replace("idx", "jdx")).told(), read_table(TEXT).told())
        self.assertNotEqual(read_table(TEXT.replace("gate busy", "gate")).told(), read_table(TEXT).told())


class ATableShown(unittest.TestCase):
    def test_shown(self):
        self.assertEqual(show_table(read_table(TEXT)), SHOWN)

    def test_shown_again(self):
        table = read_table(SHOWN)
        self.assertEqual(show_table(table), SHOWN)
        self.assertEqual(table.told(), read_table(TEXT).told())

    def test_without_marks_and_gate(self):
        text = "word 4 ; cells 4 ; depth 0 ; places a ; marks ; gate ;\nkind k ( ) { stop }"
        self.assertEqual(show_table(read_table(text.replace("\n", "  \n "))), text)

    def test_a_kind_called_like_a_place(self):
        text = "word 4 ; cells 4 ; depth 0 ; places a ; marks ; gate ;\nkind a ( x place ) { fault a }\nkind x ( ) { stop }"
        self.assertEqual(show_table(read_table(text)), text)


if __name__ == "__main__":
    unittest.main()
