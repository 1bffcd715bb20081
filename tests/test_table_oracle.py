"""Promises 22 to 28: many texts, right and wrong, held against another telling of the promises."""

import random
import unittest

from rowsbeneath.errors import NoText
from rowsbeneath.tabletext import read_table, show_table, tokens_of
from tests.helpers import told_refusal
from tests.oracle import OPS, OWN, mended, random_tokens, wrong_name, wrong_place

POOL = list(OPS) + OWN + list("(){}[],;") + ["a", "b", "xa", "deep", "bare", "0", "3", "15", "01", "16777216", "A", "?",
                                             "abcdefghi", ">"]


def mangled(source, tokens):
    """Tokens with a few of them changed, put in, thrown away, or cut off."""
    told = list(tokens)
    for _ in range(source.randint(1, 2)):
        at = source.randrange(len(told))
        deed = source.randrange(6)
        if deed == 0:
            told[at:at] = [source.choice(POOL)]
        elif deed == 1:
            del told[at]
        elif deed == 2:
            other = source.randrange(len(told))
            told[at:at] = told[other:other + source.randint(1, 8)]
        elif deed == 3:
            told = told[:at + 1]
        else:
            told[at] = source.choice(POOL)
        if not told:
            return tokens
    return told


def wanted_of(tokens):
    """The refusal that is due for tokens, or None."""
    place = wrong_place(tokens)
    return wrong_name(tokens) if place is None else (NoText, place)


class BesideTheOracle(unittest.TestCase):
    def test_right_forms(self):
        source = random.Random(22)
        for _ in range(600):
            tokens = random_tokens(source)
            text = " ".join(tokens)
            self.assertEqual(told_refusal(text), wanted_of(tokens), text)

    def test_right_texts(self):
        source = random.Random(28)
        lengths = []
        while len(lengths) < 60:
            tokens = mended(source, random_tokens(source))
            if tokens is not None:
                lengths.append(len(tokens))
                self.shown_and_read(tokens)
        self.assertGreater(max(lengths), 100)

    def shown_and_read(self, tokens):
        """That a table's shown text has the very tokens of which it was read."""
        table = read_table(" ".join(tokens))
        text = show_table(table)
        self.assertEqual(tokens_of(text), tokens)
        self.assertEqual(text, " ".join(tokens).replace(" kind ", "\nkind "))
        self.assertEqual(read_table(text).told(), table.told())

    def test_mangled_forms(self):
        source = random.Random(24)
        for _ in range(3000):
            tokens = mangled(source, random_tokens(source))
            text = " ".join(tokens)
            if len(text) <= 20000:
                self.assertEqual(told_refusal(text), wanted_of(tokens), text)


if __name__ == "__main__":
    unittest.main()
