"""Promises 11 to 14: whole numbers, words, names, sums."""

import unittest

from rowsbeneath import sums
from tests.helpers import ODD_THINGS

OWN = ("word cells depth places marks gate kind place mark number row set if else top next go call back stop"
       " fault bell").split(" ")
OPS = "+ - & | ^ << >> < =".split(" ")


def slow(op, x, y, width):
    """What an operation makes, bit by bit and step by step."""
    bits = [(x >> k & 1, y >> k & 1) for k in range(width)]
    if op in "&|^":
        wanted = {"&": (2,), "|": (1, 2), "^": (1,)}[op]
        return sum(2 ** k for k, pair in enumerate(bits) if sum(pair) in wanted)
    if op in ("<<", ">>"):
        for _ in range(y % width):
            x = x * 2 % 2 ** width if op == "<<" else x // 2
        return x
    return {"+": (x + y) % 2 ** width, "-": (x - y + 2 ** width) % 2 ** width, "<": int(x < y), "=": int(x == y)}[op]


class WholeNumbers(unittest.TestCase):
    def test_whole_numbers(self):
        for thing in (0, 1, -1, 7, 2 ** 24, 10 ** 29, -(10 ** 29)):
            self.assertIs(sums.is_whole(thing), True)
        for thing in (None, True, False, "", "1", (), (1,), [], [1], {}, {1: 1}, b"1", object()):
            self.assertIs(sums.is_whole(thing), False)

    def test_within_bounds(self):
        for low, high in ((0, 0), (-3, 5), (4, 24), (-(10 ** 29), 10 ** 29), (-9, -7)):
            for thing, answer in ((low, True), (high, True), (low - 1, False), (high + 1, False)):
                self.assertIs(sums.is_within(thing, low, high), answer)
        for thing in (3, 4, 5, 0, -1, 10 ** 29):
            self.assertIs(sums.is_within(thing, 5, 3), False)
        for thing in (None, True, False, "1", [1], (1,), {1: 1}):
            self.assertIs(sums.is_within(thing, -10, 10), False)

    def test_words(self):
        for width in range(4, 25):
            for thing in (0, 1, 2 ** width - 1, 2 ** (width - 1)):
                self.assertIs(sums.is_word(thing, width), True)
            for thing in (-1, 2 ** width, 2 ** width + 1, 10 ** 29, -(10 ** 29)):
                self.assertIs(sums.is_word(thing, width), False)
            for thing in (None, True, False, "1", [1], (1,), {1: 1}):
                self.assertIs(sums.is_word(thing, width), False)


class Names(unittest.TestCase):
    def test_own_words_in_their_order(self):
        self.assertEqual(sums.own_words(), OWN)
        self.assertEqual(len(OWN), 22)

    def test_own_words_are_a_new_list_each_time(self):
        told = sums.own_words()
        told.clear()
        self.assertEqual(sums.own_words(), OWN)
        self.assertIs(sums.is_name("word"), False)

    def test_own_words_are_no_names(self):
        for word in OWN:
            self.assertIs(sums.is_name(word), False)
            self.assertIs(sums.is_name(word.upper()), False)

    def test_own_words_with_a_letter_more_or_less(self):
        for word in OWN:
            for other in (word + "x", "x" + word, word[1:], word[:-1]):
                self.assertIs(sums.is_name(other), other not in OWN and len(other) <= 8, other)

    def test_how_many_letters(self):
        for many in range(0, 12):
            self.assertIs(sums.is_name("z" * many), 1 <= many <= 8)
        for letter in "abcdefghijklmnopqrstuvwxyz":
            self.assertIs(sums.is_name(letter), True)

    def test_other_signs(self):
        for sign in map(chr, list(range(32, 97)) + list(range(123, 127)) + [10]):
            for text in (sign, "a" + sign, sign + "a", "a" + sign + "b"):
                self.assertIs(sums.is_name(text), False)

    def test_other_things(self):
        for thing in ODD_THINGS + (b"a", object()):
            self.assertIs(sums.is_name(thing), thing == "a")


class Sums(unittest.TestCase):
    def test_truth(self):
        self.assertEqual([sums.truth_of(word) for word in (0, 1, 2, 2 ** 23, 2 ** 24 - 1)], [0, 1, 1, 1, 1])

    def test_top(self):
        for width in range(4, 25):
            half = 2 ** (width - 1)
            words = (0, 1, half - 1, half, half + 1, 2 * half - 1)
            self.assertEqual([sums.top_of(word, width) for word in words], [0, 0, 0, 1, 1, 1])

    def test_operations_in_their_order(self):
        self.assertEqual(sums.ops_told(), OPS)

    def test_operations_are_a_new_list_each_time(self):
        told = sums.ops_told()
        told.reverse()
        told.pop()
        self.assertEqual(sums.ops_told(), OPS)
        self.assertEqual(sums.reckoned("=", 3, 3, 4), 1)

    def test_each_operation(self):
        for op, answer in zip(OPS, (5, 15, 2, 3, 1, 0, 0, 1, 0)):
            self.assertEqual(sums.reckoned(op, 2, 3, 4), answer, op)
        self.assertEqual(sums.reckoned("<<", 2, 2, 4), 8)
        self.assertEqual(sums.reckoned(">>", 13, 2, 4), 3)
        self.assertEqual(sums.reckoned("=", 3, 3, 4), 1)

    def test_all_words_of_width_four(self):
        for op in OPS:
            for x in range(16):
                for y in range(16):
                    self.assertEqual(sums.reckoned(op, x, y, 4), slow(op, x, y, 4), (op, x, y))

    def test_edges_of_all_widths(self):
        for width in range(4, 25):
            last = 2 ** width - 1
            words = sorted({0, 1, 2, width - 1, width, min(width + 1, last), last // 2, last // 2 + 1, last - 1, last})
            for op in OPS:
                for x in words:
                    for y in words:
                        made = sums.reckoned(op, x, y, width)
                        self.assertEqual(made, slow(op, x, y, width), (op, x, y, width))
                        self.assertIs(type(made), int)

    def test_shifts_by_the_rest(self):
        for width in (4, 7, 24):
            self.assertEqual(sums.reckoned("<<", 5, width, width), 5)
            self.assertEqual(sums.reckoned(">>", 5, width, width), 5)
            self.assertEqual(sums.reckoned("<<", 5, width - 1, width), 2 ** (width - 1))
            self.assertEqual(sums.reckoned(">>", 2 ** width - 1, width - 1, width), 1)
            self.assertEqual(sums.reckoned("<<", 3, width + 1, width), 6)
            self.assertEqual(sums.reckoned(">>", 6, width + 1, width), 3)


if __name__ == "__main__":
    unittest.main()
