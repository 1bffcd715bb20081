"""Promise 21: a text cut into tokens."""

import random
import re
import unittest

from rowsbeneath.tabletext import tokens_of

SIGNS = "( ) { } [ ] , ; + - & | ^ << >> < =".split(" ")


class Tokens(unittest.TestCase):
    def test_the_documents_example(self):
        self.assertEqual(tokens_of("(a+b)<<<c"), ["(", "a", "+", "b", ")", "<<", "<", "c"])

    def test_no_signs_and_gaps_alone(self):
        for text in ("", " ", "\n", " \n \n\n  ", " " * 20000):
            self.assertEqual(tokens_of(text), [])

    def test_each_sign_is_a_token_whatever_stands_beside_it(self):
        for sign in SIGNS:
            self.assertEqual(tokens_of(sign), [sign])
            self.assertEqual(tokens_of(f"ab{sign}cd"), ["ab", sign, "cd"])
            self.assertEqual(tokens_of(f"\n{sign} "), [sign])
            self.assertEqual(tokens_of(f"){sign}("), [")", sign, "("])
        self.assertEqual(tokens_of("(){}[],;+-&|^="), list("(){}[],;+-&|^="))

    def test_runs_of_less(self):
        for many in range(1, 12):
            wanted = ["<<"] * (many // 2) + ["<"] * (many % 2)
            self.assertEqual(tokens_of("<" * many), wanted)
            self.assertEqual(tokens_of("a" + "<" * many + "b"), ["a"] + wanted + ["b"])

    def test_runs_of_more(self):
        for many in range(1, 12):
            self.assertEqual(tokens_of(">" * many), [">>"] * (many // 2) + [">"] * (many % 2))
        self.assertEqual(tokens_of("a>>>b"), ["a", ">>", ">b"])
        self.assertEqual(tokens_of("a>>>>b"), ["a", ">>", ">>", "b"])
        self.assertEqual(tokens_of(">>>>>b>c"), [">>", ">>", ">b>c"])

    def test_a_lone_more_is_another_sign(self):
        self.assertEqual(tokens_of("a>b"), ["a>b"])
        self.assertEqual(tokens_of(">"), [">"])
        self.assertEqual(tokens_of("a> >b"), ["a>", ">b"])
        self.assertEqual(tokens_of(">=>"), [">", "=", ">"])
        self.assertEqual(tokens_of("<>"), ["<", ">"])
        self.assertEqual(tokens_of("<<>"), ["<<", ">"])
        self.assertEqual(tokens_of("<>>"), ["<", ">>"])
        self.assertEqual(tokens_of(">a>>b"), [">a", ">>", "b"])

    def test_gaps_part_tokens(self):
        self.assertEqual(tokens_of("  ab \n\n cd\n"), ["ab", "cd"])
        self.assertEqual(tokens_of("< <"), ["<", "<"])
        self.assertEqual(tokens_of(">\n>"), [">", ">"])
        self.assertEqual(tokens_of("a\nb"), ["a", "b"])

    def test_other_signs_run_on(self):
        self.assertEqual(tokens_of("a1B_.:/\"'!?*#$@\\~`0"), ["a1B_.:/\"'!?*#$@\\~`0"])
        self.assertEqual(tokens_of("x" * 20000), ["x" * 20000])

    def test_a_new_list_each_time(self):
        told = tokens_of("a b")
        told.append("c")
        self.assertEqual(tokens_of("a b"), ["a", "b"])

    def test_many_texts_beside_another_cutting(self):
        source = random.Random(21)
        for _ in range(4000):
            text = "".join(source.choice("ab<<<>>>=( \n;1") for _ in range(source.randint(0, 14)))
            wanted = re.findall(r"<<|>>|[(){}\[\],;+\-&|^<=]|(?:(?!>>)[^(){}\[\],;+\-&|^<= \n])+", text)
            self.assertEqual(tokens_of(text), wanted, text)


if __name__ == "__main__":
    unittest.main()
