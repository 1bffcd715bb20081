"""Promise 25: the names in a table's text."""

import unittest

from rowsbeneath.errors import NoFit, NoName, Twice
from rowsbeneath.tabletext import read_table
from tests.helpers import told_refusal, with_body

ALL_SORTS = "p place , q mark , n number"


def headed(places="a b", marks="m", gate="", rest="kind add ( ) { next }"):
    """A text with these names ahead of its kinds."""
    return f"word 8 ; cells 16 ; depth 2 ; places {places} ; marks {marks} ; gate {gate} ; {rest}"


class GivenTwice(unittest.TestCase):
    def test_places_and_marks(self):
        for places, marks, name in (("a a", "", "a"), ("a b c b", "", "b"), ("a", "a", "a"), ("a b", "m b", "b"),
                                    ("a", "m m", "m"), ("a", "x y x", "x"), ("a b b a", "a", "b")):
            self.assertEqual(told_refusal(headed(places, marks)), (Twice, name))

    def test_kinds(self):
        text = headed(rest="kind one ( ) { next } kind two ( ) { next } kind one ( ) { next }")
        self.assertEqual(told_refusal(text), (Twice, "one"))

    def test_fields(self):
        for fields, name in (("x place , x mark", "x"), ("x row , y row , x row", "x"), ("a number", "a"),
                             ("x place , b row", "b"), ("m mark", "m")):
            self.assertEqual(told_refusal(with_body("{ next }", fields)), (Twice, name))

    def test_fields_of_two_kinds_may_have_one_name(self):
        text = headed(rest="kind one ( x place ) { set x = 1 ; next } kind two ( x row ) { go x }")
        self.assertEqual(read_table(text).fields_of("two"), (("x", "row"),))

    def test_kinds_may_be_called_like_other_things(self):
        rest = "kind a ( x place ) { next } kind m ( ) { next } kind x ( y mark ) { next } kind y ( ) { next }"
        self.assertEqual(read_table(headed(rest=rest)).kinds, ("a", "m", "x", "y"))
        self.assertIsNone(told_refusal(headed(rest="kind add ( add number ) { set a = add ; next }")))

    def test_faults_may_be_called_like_other_things(self):
        for name in ("a", "m", "x", "add", "other"):
            table = read_table(with_body("{ fault " + name + " }", "x row"))
            self.assertEqual(table.deed("add"), ("leaf", (), ("fault", name)))


class KnownNames(unittest.TestCase):
    def test_gate(self):
        self.assertIsNone(told_refusal(headed(gate="m")))
        self.assertEqual(told_refusal(headed(gate="x")), (NoName, "x"))
        self.assertEqual(told_refusal(headed(gate="add")), (NoName, "add"))
        self.assertEqual(told_refusal(headed(marks="", gate="m")), (NoName, "m"))
        self.assertEqual(told_refusal(headed(gate="b")), (NoFit, "b"))

    def body(self, body, wanted, fields=ALL_SORTS):
        self.assertEqual(told_refusal(with_body(body, fields)), wanted, body)

    def test_behind_if(self):
        for name in ("a", "m", "p", "q"):
            self.body("{ if " + name + " { next } else { next } }", None)
        self.body("{ if x { next } else { next } }", (NoName, "x"))
        self.body("{ if add { next } else { next } }", (NoName, "add"))
        self.body("{ if n { next } else { next } }", (NoFit, "n"))
        self.body("{ if r { next } else { next } }", (NoFit, "r"), "r row")

    def test_behind_top(self):
        for name in ("a", "b", "p"):
            self.body("{ if top " + name + " { next } else { next } }", None)
        self.body("{ if top x { next } else { next } }", (NoName, "x"))
        for name in ("m", "q", "n"):
            self.body("{ if top " + name + " { next } else { next } }", (NoFit, name))
        self.body("{ if top r { next } else { next } }", (NoFit, "r"), "r row")

    def test_behind_set(self):
        for name in ("a", "m", "p", "q"):
            self.body("{ set " + name + " = 1 ; next }", None)
        self.body("{ set x = 1 ; next }", (NoName, "x"))
        self.body("{ set n = 1 ; next }", (NoFit, "n"))
        self.body("{ set r = 1 ; next }", (NoFit, "r"), "r row")

    def test_in_an_expression(self):
        for start, end in (("", ""), ("[ ", " ]"), ("( 1 + ", " )"), ("( ", " + 1 )"), ("[ ( 1 + [ ", " ] ) ]")):
            for name in ("a", "m", "p", "q", "n"):
                self.body("{ set a = " + start + name + end + " ; next }", None)
                self.body("{ set [ " + start + name + end + " ] = 1 ; next }", None)
            self.body("{ set a = " + start + "x" + end + " ; next }", (NoName, "x"))
            self.body("{ set [ " + start + "x" + end + " ] = 1 ; next }", (NoName, "x"))
            self.body("{ set a = " + start + "r" + end + " ; next }", (NoFit, "r"), "r row")
            self.body("{ set [ 1 ] = " + start + "r" + end + " ; next }", (NoFit, "r"), "r row")

    def test_behind_go_and_call(self):
        for end in ("go", "call"):
            self.body("{ " + end + " r }", None, "r row")
            self.body("{ " + end + " x }", (NoName, "x"))
            self.body("{ " + end + " add }", (NoName, "add"))
            for name in ("a", "m", "p", "q", "n"):
                self.body("{ " + end + " " + name + " }", (NoFit, name))

    def test_a_field_of_another_kind_is_none(self):
        rest = "kind one ( x place ) { next } kind two ( ) { set x = 1 ; next }"
        self.assertEqual(told_refusal(headed(rest=rest)), (NoName, "x"))
        rest = "kind one ( ) { set x = 1 ; next } kind two ( x place ) { next }"
        self.assertEqual(told_refusal(headed(rest=rest)), (NoName, "x"))


class TheFirstOfSeveral(unittest.TestCase):
    """A text with many faults: mended one by one, they are told in the order of the text."""

    TEXT = ("word 8 ; cells 16 ; depth 2 ; places a @ ; marks m @ ; gate @ ; kind one ( x row , @ number ) "
            "{ if @ { set @ = ( @ + @ ) ; set [ @ ] = @ ; go @ } else { if top @ { call @ } else { fault zz } } } "
            "kind @ ( z place , @ mark ) { set @ = 1 ; next }")
    # What stands for each @: the wrong name, how it is refused, the right name.
    NAMES = (
        ("a", Twice, "b"), ("m", Twice, "k"), ("b", NoFit, "m"), ("x", Twice, "y"), ("v", NoName, "a"),
        ("y", NoFit, "b"), ("w", NoName, "y"), ("x", NoFit, "k"), ("t", NoName, "m"), ("x", NoFit, "y"),
        ("r", NoName, "x"), ("m", NoFit, "b"), ("y", NoFit, "x"), ("one", Twice, "two"), ("k", Twice, "q"),
        ("x", NoName, "z"),
    )

    def test_one_by_one(self):
        for many in range(len(self.NAMES) + 1):
            text = self.TEXT
            for at, (wrong, _, right) in enumerate(self.NAMES):
                text = text.replace("@", right if at < many else wrong, 1)
            left = [(refusal, wrong) for wrong, refusal, _ in self.NAMES[many:]]
            self.assertEqual(told_refusal(text), left[0] if left else None, text)


if __name__ == "__main__":
    unittest.main()
