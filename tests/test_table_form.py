"""Promises 22 to 24: the order of the tokens, their bounds, and NoText."""

import unittest

from rowsbeneath.sums import own_words
from rowsbeneath.tabletext import read_table, tokens_of
from tests.helpers import HEAD, ODD_THINGS, no_text_place, told_refusal, with_body, with_word

WHOLE = """
word 8 ; cells 16 ; depth 2 ; places a b ; marks m ; gate m ;
kind add ( p place , n number , r row ) {
  if top p { set p = ( p + 7 ) ; set [ a ] = ( [ b ] << n ) ; set m = 0 ; go r }
  else { if m { call r } else { fault wrong } } }
kind leave ( ) { set b = [ [ [ 0 ] ] ] ; back }
kind end ( ) { stop }
"""


MOST_BY_BRACKETS = (1, 5, 13, 29)


def expression_of_tokens(many, brackets=3):
    """The tokens of an expression, just so many: an odd number to 29."""
    if many == 1:
        return ["a"]
    if many == 3:
        return ["[", "a", "]"]
    one = min(MOST_BY_BRACKETS[brackets - 1], many - 4)
    other = many - 3 - one
    return (["("] + expression_of_tokens(one, brackets - 1) + ["+"] + expression_of_tokens(other, brackets - 1) + [")"])


def body_of_sets(sets, choices):
    """The tokens of a body whose leaves stand within so many choices, and have the next sets, four each."""
    if choices:
        yes = body_of_sets(sets, choices - 1)
        return ["{", "if", "a"] + yes + ["else"] + body_of_sets(sets, choices - 1) + ["}"]
    taken = []
    for _ in range(min(4, len(sets))):
        taken += sets.pop()
    return ["{"] + taken + ["next", "}"]


def text_of_tokens(many):
    """The tokens of a right text, just so many, from 1,400 to 2,000."""
    head = tokens_of("word 8 ; cells 16 ; depth 2 ; places a b ; marks ; gate ;")
    needed = many - len(head) - 2 * len(["kind", "one", "(", ")"] + body_of_sets([], 3))
    lengths = [5] * (62 + needed % 2)
    at = 0
    while sum(lengths) < needed:
        lengths[at % len(lengths)] += 2
        at += 1
    sets = [["set", "a", "="] + expression_of_tokens(length - 4) + [";"] for length in lengths]
    for name in ("one", "other"):
        head += ["kind", name, "(", ")"] + body_of_sets(sets, 3)
    return head


class Form(unittest.TestCase):
    def at_last(self, text):
        """That the last token of a text is the one that cannot stand, and whatever comes behind it is no matter."""
        place = len(tokens_of(text)) - 1
        for behind in ("", " ?", " ;", " }", " kind word word"):
            self.assertEqual(no_text_place(text + behind), place, text + behind)

    def stands(self, text):
        """That the form of a text is right."""
        self.assertIsNone(no_text_place(text), text)

    def test_no_text(self):
        for thing in ODD_THINGS:
            if not isinstance(thing, str):
                self.assertEqual(no_text_place(thing), 0)
        self.assertEqual(no_text_place(read_table(WHOLE)), 0)

    def test_too_early_at_each_place(self):
        tokens = tokens_of(WHOLE)
        ends = [k for k in range(1, len(tokens)) if tokens[k] == "kind"][1:]
        for k in range(len(tokens)):
            place = no_text_place(" ".join(tokens[:k]))
            self.assertEqual(place, None if k in ends else k)

    def test_an_odd_token_at_each_place(self):
        tokens = tokens_of(WHOLE)
        for k in range(len(tokens) + 1):
            for odd in ("?", "A", "a>", ">", "01", "word", "bell"):
                if tokens[k:k + 1] != [odd]:
                    self.assertEqual(no_text_place(" ".join(tokens[:k] + [odd] + tokens[k:])), k, (k, odd))

    def test_gaps_do_not_matter(self):
        tight = "word 8;cells 16;depth 2;places a b;marks;gate;kind add(){set a=([b]<<1);next}"
        self.stands(tight)
        self.stands("\n \n".join(tokens_of(tight)))

    def test_width(self):
        for n in range(4, 25):
            self.stands(with_body("{ next }", head=HEAD.replace("word 8", f"word {n}")))
        for n in ("0", "3", "25", "100", "04", "-", "a", "x4", "4x", "4.", "", "9" * 30, "9" * 5000):
            self.at_last(f"word {n or ';'}")

    def test_cells(self):
        for n in range(4, 65):
            self.stands(with_body("{ next }", head=HEAD.replace("cells 16", f"cells {n}")))
        for n in ("0", "3", "65", "640", "016", "cells", ";"):
            self.at_last(f"word 8 ; cells {n}")

    def test_depth(self):
        for n in range(0, 9):
            self.stands(with_body("{ next }", head=HEAD.replace("depth 2", f"depth {n}")))
        for n in ("9", "10", "00", "02", "two", ";"):
            self.at_last(f"word 8 ; cells 16 ; depth {n}")

    def test_order_of_the_head(self):
        self.at_last("cells")
        self.at_last("word 8 cells")
        self.at_last("word 8 ; depth")
        self.at_last("word 8 ; cells 16 ; places")
        self.at_last("word 8 ; cells 16 ; depth 2 ; marks")
        self.at_last("word 8 ; cells 16 ; depth 2 ; places a ; gate")
        self.at_last("word 8 ; cells 16 ; depth 2 ; places a ; marks ; kind")
        self.at_last(HEAD + ";")

    def test_places(self):
        start = "word 8 ; cells 16 ; depth 2 ; places "
        for many in range(1, 5):
            self.stands(start + "a b c d"[:2 * many - 1] + " ; marks ; gate ; kind add ( ) { next }")
        for rest in (";", "a b c d e", "a ,", "place", "a mark", "aaaaaaaaa", "A", "a1", "1"):
            self.at_last(start + rest)

    def test_marks(self):
        start = "word 8 ; cells 16 ; depth 2 ; places a ; marks "
        for many in range(0, 4):
            self.stands(start + "x y z "[:2 * many] + "; gate ; kind add ( ) { next }")
        for rest in ("x y z w", "x gate", "gate", "x , ", "1"):
            self.at_last(start + rest)

    def test_gate(self):
        start = "word 8 ; cells 16 ; depth 2 ; places a ; marks m ; gate "
        for rest in ("", "m "):
            self.stands(start + rest + "; kind add ( ) { next }")
        for rest in ("m m", "kind", "mark", "1", "m kind"):
            self.at_last(start + rest)

    def test_kinds(self):
        one = "kind {} ( ) {{ next }} "
        for many in range(1, 9):
            self.stands(HEAD + "".join(one.format("abcdefghi"[k]) for k in range(many)))
        eight = HEAD + "".join(one.format(letter) for letter in "abcdefgh")
        self.at_last(eight + "kind")
        self.at_last(eight + ";")
        self.assertEqual(no_text_place(HEAD), len(tokens_of(HEAD)))
        self.at_last(HEAD + "kind bell")
        self.at_last(HEAD + "kind (")
        self.at_last(HEAD + "kind add {")
        self.at_last(HEAD + "kind add ( ) { next } ;")
        self.at_last(HEAD + "kind add ( ) { next } kinds")

    def test_fields(self):
        for fields in ("", "x place", "x place , y mark", "x place , y mark , z number", "x row , y row , z row"):
            self.stands(with_body("{ next }", fields))
        for fields in (",", "x ,", "x place y", "x place , )", "x place , y mark , z row ,", "place",
                       "x cell", "x place , mark", "x place ;", "row", "x )", "1", "x places"):
            self.at_last(HEAD + "kind add ( " + fields)

    def test_choices(self):
        body = "{ next }"
        for _ in range(3):
            body = "{ if a " + body + " else { next } }"
            self.stands(with_body(body))
        self.at_last(HEAD + "kind add ( ) { if a { if a { if a { if")
        self.at_last(HEAD + "kind add ( ) { if a { if a { if a { next } else { if")
        self.at_last(HEAD + "kind add ( ) { if a { next } else { if a { next } else { if top a { next } else { if")
        inner = "{ if a { next } else { next } }"
        self.stands(with_body("{ if a { if b " + inner + " else " + inner + " } else { if m " + inner + " else "
                              + inner + " } }"))

    def test_choice_has_its_tokens(self):
        start = HEAD + "kind add ( ) "
        for rest in ("next", "{ if {", "{ if top {", "{ if top top", "{ if 1", "{ if (", "{ if a next", "{ if a { next } }",
                     "{ if a { next } next", "{ if a { next } else next", "{ if a { next } else { next } ;", "{ else",
                     "{ if a { next } else { next } set", "{ set a = 1 ; if", "{ top", "{ { "):
            self.at_last(start + rest)

    def test_sets(self):
        one = "set a = 1 ; "
        for many in range(0, 5):
            self.stands(with_body("{ " + one * many + "next }"))
        self.at_last(HEAD + "kind add ( ) { " + one * 4 + "set")
        self.at_last(HEAD + "kind add ( ) { if a { " + one * 4 + "next } else { " + one * 4 + "set")
        for rest in ("set =", "set 1", "set (", "set set", "set a 1", "set a = ;", "set a = 1 }", "set a = 1 next",
                     "set [ ]", "set [ 1 =", "set [ 1 ] 1", "set [ 1 ] = ]", "set a <", "a"):
            self.at_last(HEAD + "kind add ( ) { " + rest)

    def test_one_cell_in_a_leaf(self):
        cell = "set [ 1 ] = 2 ; "
        for sets in (cell, cell + "set a = 1 ; set b = 2 ; set m = 3 ; ", "set a = 1 ; set b = 2 ; set m = 3 ; " + cell):
            self.stands(with_body("{ " + sets + "next }"))
        self.stands(with_body("{ if a { " + cell + "next } else { " + cell + "next } }"))
        for between in ("", "set a = [ 1 ] ; ", "set a = 1 ; set b = 2 ; "):
            self.at_last(HEAD + "kind add ( ) { " + cell + between + "set [")
            self.at_last(HEAD + "kind add ( ) { if a { " + cell + "next } else { " + cell + between + "set [")
        self.stands(with_body("{ " + cell + "next }") + " kind more ( ) { " + cell + "next }")

    def test_brackets_within_one_another(self):
        for e in ("[ [ [ a ] ] ]", "( ( ( a + 1 ) + 1 ) + 1 )", "( 1 + ( 1 + ( 1 + a ) ) )", "[ ( [ 1 ] + [ 2 ] ) ]",
                  "( ( ( a + b ) = ( a - b ) ) & ( ( a ^ b ) | ( a >> b ) ) )"):
            self.stands(with_word(e))
            self.stands(with_body("{ set [ " + e + " ] = " + e + " ; next }"))
        for deep in ("[ [ [ [", "( ( ( (", "( [ ( [", "( 1 + [ ( 1 + (", "( ( ( 1 + 1 ) + 1 ) + ( ( 1 + [",
                     "( ( 1 + ( 1 + [", "[ [ [ ("):
            self.at_last(HEAD + "kind add ( ) { set a = " + deep)
            self.at_last(HEAD + "kind add ( ) { set [ " + deep)
            self.at_last(HEAD + "kind add ( ) { set [ a ] = " + deep)

    def test_numbers_in_an_expression(self):
        for width in range(4, 25):
            head = HEAD.replace("word 8", f"word {width}")
            for n in (0, 1, 2 ** width - 1):
                self.stands(with_body("{ set a = " + str(n) + " ; next }", head=head))
            for n in (str(2 ** width), str(2 ** width + 1), "1" * 30, "1" * 5000, "00", "01", "0a", "-1", "1_0"):
                start = head + "kind add ( ) { set a = " + n
                self.assertEqual(no_text_place(start), len(tokens_of(head)) + 8, start)

    def test_expressions(self):
        for op in ("+", "-", "&", "|", "^", "<<", ">>", "<", "="):
            self.stands(with_word("( a " + op + " 1 )"))
        for e in ("( a ;", "( a )", "( a >", "( a * ", "( a + )", "( a + 1 ;", "( a + 1 + ", "( )", "[ ]", "[ a )", "( a ]",
                  ")", "a b", "a +", "1 1", "top", "set", "( a <<<"):
            self.at_last(HEAD + "kind add ( ) { set a = " + e)

    def test_own_words_in_the_place_of_names(self):
        for word in own_words():
            for start in ("word 8 ; cells 16 ; depth 2 ; places ", HEAD + "kind ", HEAD + "kind add ( ",
                          HEAD + "kind add ( x place , ", HEAD + "kind add ( ) { go ", HEAD + "kind add ( ) { call ",
                          HEAD + "kind add ( ) { fault ", HEAD + "kind add ( ) { set ",
                          HEAD + "kind add ( ) { set a = ", HEAD + "kind add ( ) { if top "):
                self.at_last(start + word)
            if word != "top":
                self.at_last(HEAD + "kind add ( ) { if " + word)

    def test_ends(self):
        for end in ("next", "go r", "call r", "back", "stop", "fault r", "fault a", "fault deeper", "fault bares"):
            self.stands(with_body("{ " + end + " }", "r row"))
        for end in ("fault deep", "fault bare", "fault }", "fault 1", "go }", "go 1", "go (", "next ;", "next next",
                    "stop a", "back 1", "go r s", "fault a ;", "end", "}"):
            self.at_last(HEAD + "kind add ( r row ) { " + end)

    def test_deep_and_bare_elsewhere_are_names(self):
        self.stands(with_body("{ call deep }", "deep row"))
        self.stands(with_body("{ set bare = deep ; next }", "deep number , bare place"))

    def test_the_form_comes_ahead_of_the_names(self):
        text = "word 8 ; cells 16 ; depth 2 ; places a a ; marks ; gate b ; kind add ( ) { go x ?"
        self.at_last(text)


class Bounds(unittest.TestCase):
    def test_20000_signs(self):
        text = with_body("{ next }")
        for at in (0, len(text), text.index("kind")):
            gap = 20000 - len(text)
            self.assertIsNone(told_refusal(text[:at] + " " * gap + text[at:]))
            self.assertEqual(no_text_place(text[:at] + " " * (gap + 1) + text[at:]), 0)
        self.assertEqual(no_text_place(text + "x" * (20000 - len(text))), len(tokens_of(text)))
        self.assertEqual(no_text_place(text + "x" * (20001 - len(text))), 0)
        self.assertEqual(no_text_place("x" * 20000), 0)
        self.assertEqual(no_text_place(" " * 20000), 0)

    def test_1500_tokens(self):
        tokens = text_of_tokens(1500)
        self.assertEqual(len(tokens), 1500)
        self.assertIsNone(told_refusal(" ".join(tokens)))
        self.assertEqual(read_table(" ".join(tokens)).width, 8)

    def test_1501_tokens(self):
        tokens = text_of_tokens(1501)
        self.assertEqual(no_text_place(" ".join(tokens)), 1500)
        for odd in (0, 1, 700, 1499):
            self.assertEqual(no_text_place(" ".join(tokens[:odd] + ["?"] + tokens[odd + 1:])), odd)
        self.assertEqual(no_text_place(" ".join(tokens[:1500] + ["?"])), 1500)

    def test_1500_tokens_that_lack_an_end(self):
        for many in (1502, 1520, 1600):
            tokens = text_of_tokens(many)
            self.assertEqual(no_text_place(" ".join(tokens[:1499])), 1499)
            self.assertEqual(no_text_place(" ".join(tokens[:1500])), 1500)
            self.assertEqual(no_text_place(" ".join(tokens)), 1500)

    def test_a_whole_text_with_more_behind_it(self):
        tokens = text_of_tokens(1500)
        for behind in ("kind", "?", ";"):
            self.assertEqual(no_text_place(" ".join(tokens + [behind] * 20)), 1500)


if __name__ == "__main__":
    unittest.main()
