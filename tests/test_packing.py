"""Promises 51 to 56: steps that meet, packings, chains."""

import itertools
import random
import unittest

from rowsbeneath.little import Little, fits, row_beneath
from rowsbeneath.packing import chain_of, is_chain, is_packing, meets, packed
from rowsbeneath.steps import step_of
from rowsbeneath.tabletext import read_table
from tests.draws import some_row, some_state, some_step
from tests.helpers import ODD_THINGS
from tests.oracle_laying import beats, touched

GET0, GET1, ASK1 = ("get", 0, ("is", 0)), ("get", 1, ("is", 0)), ("ask", 1, ("is", 0))
CELL, PUT, TELL, STORE = ("cell", 2, ("number", 0)), ("put", ("is", 0), ("in", 0)), ("tell", ("is", 0), ("in", 0)), ("store", ("field", 0), ("in", 0))


def two(to, one, other):
    """A step of two inner places."""
    return ("two", to, "+", ("in", one), ("in", other))


def steps_of(*told):
    return [step_of(step) for step in told]


def some_steps(source, most=12, inner=8):
    return [step_of(some_step(source, inner)) for _ in range(source.randint(0, most))]


# 0 and 1 meet by the way, 2 reads what 0 writes, 3 meets none, 4 reads what 2 and 3 write, 5 writes what 4 reads.
ROW = steps_of(GET0, GET1, two(2, 0, 0), two(3, 7, 7), two(4, 2, 3), two(3, 6, 6))


class Meeting(unittest.TestCase):
    def both(self, one, other, wanted):
        one, other = step_of(one), step_of(other)
        self.assertIs(meets(one, other), wanted)
        self.assertIs(meets(other, one), wanted)

    def test_by_the_way(self):
        users = (GET0, GET1, ASK1, CELL, PUT, TELL, STORE)
        for one, other in itertools.product(users, users):
            self.both(one, other, True)

    def test_by_an_inner_place(self):
        self.both(two(0, 1, 2), two(3, 0, 4), True)
        self.both(two(0, 1, 2), two(3, 4, 0), True)
        self.both(two(0, 1, 2), two(0, 3, 4), True)
        self.both(two(0, 1, 2), two(1, 3, 4), True)
        self.both(two(0, 1, 2), two(2, 3, 4), True)
        self.both(GET0, two(1, 0, 2), True)
        self.both(GET0, two(0, 1, 2), True)
        self.both(PUT, two(0, 1, 2), True)
        self.both(STORE, two(0, 1, 2), True)
        self.both(TELL, two(0, 1, 2), True)
        self.both(("cell", 2, ("in", 5)), two(5, 1, 1), True)
        self.both(("cell", 2, ("in", 5)), two(6, 2, 1), True)

    def test_that_do_not(self):
        self.both(two(0, 1, 2), two(3, 1, 2), False)
        self.both(two(0, 1, 1), two(2, 3, 3), False)
        self.both(GET0, two(1, 2, 3), False)
        self.both(PUT, two(1, 0, 0), False)
        self.both(STORE, two(1, 0, 0), False)
        self.both(TELL, two(1, 0, 0), False)
        self.both(CELL, two(1, 0, 0), False)
        self.both(("two", 0, "+", ("number", 1), ("field", 1)), ("two", 1, "+", ("number", 1), ("field", 1)), False)
        self.both(("put", ("is", 0), ("number", 0)), ("two", 0, "=", ("field", 0), ("number", 0)), False)

    def test_a_step_and_itself(self):
        for told in (GET0, PUT, two(0, 1, 1)):
            self.both(told, told, True)

    def test_drawn(self):
        source = random.Random(51)
        for _ in range(600):
            one, other = some_step(source), some_step(source)
            (reads, writes), (also_reads, also_writes) = touched(one), touched(other)
            self.both(one, other, bool(writes & (also_reads | also_writes) or also_writes & reads))


class Packed(unittest.TestCase):
    def test_beats(self):
        self.assertEqual(packed([]), [])
        self.assertEqual(packed(()), [])
        self.assertEqual(packed(steps_of(GET0)), [[0]])
        self.assertEqual(packed(steps_of(GET0, GET1)), [[0], [1]])
        self.assertEqual(packed(steps_of(GET0, two(1, 2, 3), two(4, 5, 6))), [[0, 1, 2]])
        self.assertEqual(packed(ROW), [[0, 3], [1, 2], [4], [5]])
        self.assertEqual(packed(tuple(ROW)), packed(ROW))

    def test_right_behind_the_last_beat_of_those_it_meets(self):
        # The last step meets 0 and 2 alone: it stands behind 2, though nothing else holds it there.
        row = steps_of(two(0, 6, 6), two(1, 0, 0), two(2, 1, 1), two(3, 2, 0), two(4, 0, 0))
        self.assertEqual(packed(row), [[0], [1, 4], [2], [3]])
        # Written, then read, then written again: each waits for the one ahead.
        row = steps_of(two(0, 7, 7), two(1, 0, 0), two(0, 6, 6), two(2, 0, 0))
        self.assertEqual(packed(row), [[0], [1], [2], [3]])

    def test_a_hundred_steps(self):
        row = steps_of(*[GET0] * 100)
        self.assertEqual(packed(row), [[number] for number in range(100)])
        self.assertEqual(chain_of(row), list(range(100)))
        row = steps_of(*[two(number % 4, 4 + number % 4, 7) for number in range(100)])
        self.assertEqual(packed(row), [list(range(at, at + 4)) for at in range(0, 100, 4)])
        self.assertEqual(chain_of(row), list(range(0, 100, 4)))
        self.assertIs(is_packing(row, packed(row)), True)

    def test_lists_are_new_each_time(self):
        told = packed(ROW)
        told[0].append(9)
        told.pop()
        self.assertEqual(packed(ROW), [[0, 3], [1, 2], [4], [5]])
        chain = chain_of(ROW)
        chain.append(9)
        self.assertEqual(chain_of(ROW), [0, 2, 4, 5])

    def test_drawn(self):
        source = random.Random(52)
        for _ in range(400):
            row = some_steps(source, source.choice([3, 12, 40]), source.choice([2, 4, 8]))
            self.assertEqual(packed(row), beats([step.told() for step in row]))
            self.assertIs(is_packing(row, packed(row)), True)


class Packings(unittest.TestCase):
    def test_right_ones(self):
        self.assertIs(is_packing([], []), True)
        for told in (packed(ROW), [[0], [1], [2], [3], [4], [5]], [[3], [0], [2], [1], [4], [5]], [[0], [2, 3], [1, 4], [5]],
                     [[3], [0], [1, 2], [4], [5]], [[0, 3], [2], [4], [5], [1]], [[0, 3], [2], [4], [1, 5]]):
            self.assertIs(is_packing(ROW, told), True, told)
            self.assertIs(is_packing(tuple(ROW), told), True)

    def test_wrong_in_one_thing(self):
        for told in (
            [[0, 3], [1, 2], [4], [5], []], [[], [0, 3], [1, 2], [4], [5]], [[0, 3], [], [1, 2], [4], [5]],
            [[3, 0], [1, 2], [4], [5]], [[0, 3], [2, 1], [4], [5]], [[0, 0, 3], [1, 2], [4], [5]], [[0, 3], [1, 2], [4], [4], [5]],
            [[0, 3], [1, 2, 3], [4], [5]], [[0, 3], [2], [4], [5]], [[0, 3], [1, 2], [4]], [[3], [1, 2], [4], [5]],
            [[0, 3], [1, 2], [4], [5], [6]], [[0, 3], [1, 2], [4], [5, 6]], [[-1, 0, 3], [1, 2], [4], [5]],
            [[False, 3], [1, 2], [4], [5]], [[0, 3], [True, 2], [4], [5]], ([0, 3], [1, 2], [4], [5]), [(0, 3), [1, 2], [4], [5]],
            [[0, 3], [1, 2], (4,), [5]], [[0, 3], [1, 2], [4], 5], [[0, 3], [1, 2], [4], None], [[0, 3], [1, 2], [[4]], [5]],
            [["0", 3], [1, 2], [4], [5]], [[0, 3], [1, 2], [4], [None]], [[0, 1, 3], [2], [4], [5]], [[0, 3], [1, 2, 4], [5]],
            [[0, 2, 3], [1], [4], [5]], [[0, 3], [1, 2], [4, 5]], [[1, 3], [0], [2], [4], [5]], [[2, 3], [0], [1], [4], [5]],
            [[0, 3], [1, 2], [5], [4]], [[5], [0, 3], [1, 2], [4]], [[0], [1, 2], [4], [3], [5]], [], [[]],
            [[0, 3], [1, 2], [4], {5: 5}], {0: [0, 3]}, [0, 1, 2, 3, 4, 5],
        ):
            self.assertIs(is_packing(ROW, told), False, told)

    def test_of_a_row_without_steps(self):
        for told in ([[]], [[0]], (), None, [0]):
            self.assertIs(is_packing([], told), False)

    def test_things_of_all_kinds(self):
        for thing in ODD_THINGS + (ROW, ROW[0], "0", [ROW], [[ROW[0]]]):
            self.assertIs(is_packing(ROW, thing), False)
            self.assertIs(is_packing([], thing), thing == [])
            if thing != [[]]:
                self.assertIs(is_packing(steps_of(GET0), [thing]), False)

    def test_all_of_a_short_row(self):
        # Each way to lay three steps into lists, held against the words of the promise.
        source = random.Random(53)
        for _ in range(60):
            row = some_steps(source, 3, 2)
            while len(row) < 3:
                row = some_steps(source, 3, 2)
            for at in itertools.product(range(3), repeat=3):
                told = [[number for number in range(3) if at[number] == beat] for beat in range(max(at) + 1)]
                good = all(told) and all(at[one] < at[other] for one, other in ((0, 1), (0, 2), (1, 2)) if meets(row[one], row[other]))
                self.assertIs(is_packing(row, told), good)


class Chains(unittest.TestCase):
    def test_right_ones(self):
        for told in ([], [0], [5], [0, 1], [0, 2, 4, 5], [3, 4], [3, 4, 5], [3, 5], [2, 4], [4, 5]):
            self.assertIs(is_chain(ROW, told), True, told)
        self.assertIs(is_chain([], []), True)

    def test_wrong_ones(self):
        for told in ([1, 0], [0, 0], [2, 0], [0, 3], [0, 2, 5], [1, 2], [6], [-1], [0, 6], [-1, 0], [True], [0, True], [False], (0, 1), (),
                     [0, None], ["0"], [[0]], [0, 2, 4, 5, 5], [5, 4], [2, 5], [0, 1, 2], {0: 1}, 0, None, True):
            self.assertIs(is_chain(ROW, told), False, told)
        for thing in ODD_THINGS + (ROW,):
            self.assertIs(is_chain(ROW, thing), thing in ([], [3]), thing)
            self.assertIs(is_chain([], thing), thing == [])

    def test_the_told_one(self):
        self.assertEqual(chain_of([]), [])
        self.assertEqual(chain_of(()), [])
        self.assertEqual(chain_of(steps_of(GET0)), [0])
        self.assertEqual(chain_of(ROW), [0, 2, 4, 5])
        # Of several that would do the least number is told, of the last beat too.
        row = steps_of(two(0, 6, 6), two(1, 6, 6), two(2, 6, 6), two(3, 2, 1), two(4, 1, 0))
        self.assertEqual(chain_of(row), [1, 3])
        row = steps_of(two(0, 6, 6), two(1, 6, 6), two(3, 1, 1), two(4, 0, 0), two(5, 4, 3))
        self.assertEqual((packed(row), chain_of(row)), ([[0, 1], [2, 3], [4]], [1, 2, 4]))
        row = steps_of(two(0, 6, 6), two(1, 7, 7), two(2, 1, 1), two(3, 0, 0))
        self.assertEqual((packed(row), chain_of(row)), ([[0, 1], [2, 3]], [1, 2]))

    def test_as_long_as_the_beats(self):
        source = random.Random(55)
        for _ in range(400):
            row = some_steps(source, source.choice([5, 30]), source.choice([3, 8]))
            told, chain = packed(row), chain_of(row)
            self.assertIs(is_chain(row, chain), True)
            self.assertEqual(len(chain), len(told))
            for beat, number in zip(told, chain):
                self.assertIn(number, beat)
            if chain:
                self.assertEqual(chain[-1], told[-1][0])
            for at in range(1, len(chain)):
                self.assertEqual(chain[at - 1], min(n for n in told[at - 1] if meets(row[n], row[chain[at]])))


TABLE = read_table("""word 8 ; cells 9 ; depth 1 ; places a b c ; marks m n ; gate ;
kind k ( p place , q mark , x number ) { next }""")


class OneByOneOrAtOnce(unittest.TestCase):
    def behind(self, row, lists, state, operands, inner):
        """The state behind rows of steps, list by list, and the words that are in the inner places then."""
        rows = [Little([row[number] for number in told], ("on", at + 1)) for at, told in enumerate(lists)]
        end = [Little([], ("done", ("next",)))]
        kept = [step_of(("store", ("number", r), ("in", r))) for r in range(8)]
        shown = [Little(kept, ("done", ("next",)))]
        first = row_beneath(TABLE, rows + end, 8, 0, state, operands, 2000, inner)
        other = row_beneath(TABLE, rows + shown, 8, 0, state, operands, 2000, inner)
        self.assertEqual((first[1], other[1]), (len(lists) + 1,) * 2)
        return first[0].told(), other[0].cells[:8]

    def some_packing(self, source, row):
        """Any packing: each step some lists behind those that it meets."""
        at = []
        for number, step in enumerate(row):
            ahead = [at[other] + 1 for other in range(number) if meets(row[other], step)]
            at.append(max(ahead, default=0) + source.choice([0, 0, 1, 3]))
        return [[number for number in range(len(row)) if at[number] == beat] for beat in sorted(set(at))]

    def test_drawn(self):
        source = random.Random(56)
        shorter = 0
        for _ in range(300):
            row = [step for step in some_steps(source, 40) if fits(TABLE, "k", 8, Little([step], ("on", 0)))]
            state, operands = some_state(source, TABLE), some_row(source, TABLE)
            inner = [source.randrange(256) for _ in range(8)]
            one_by_one = self.behind(row, [[number] for number in range(len(row))], state, operands, inner)
            self.assertEqual(self.behind(row, packed(row), state, operands, inner), one_by_one)
            other = self.some_packing(source, row)
            self.assertIs(is_packing(row, other), True)
            self.assertLessEqual(len(chain_of(row)), len(other))
            self.assertEqual(self.behind(row, other, state, operands, inner), one_by_one)
            shorter += len(packed(row)) < len(row)
        self.assertGreater(shorter, 150)

    def test_steps_that_do_not_meet_in_any_order(self):
        source = random.Random(5651)
        found = 0
        while found < 200:
            row = [step for step in some_steps(source, 2) if fits(TABLE, "k", 8, Little([step], ("on", 0)))]
            if len(row) == 2 and not meets(*row):
                found += 1
                state, operands = some_state(source, TABLE), some_row(source, TABLE)
                inner = [source.randrange(256) for _ in range(8)]
                told = [self.behind(row, lists, state, operands, inner)[0] for lists in ([[0], [1]], [[1], [0]], [[0, 1]], [[1, 0]])]
                self.assertEqual(told, [told[0]] * 4)


if __name__ == "__main__":
    unittest.main()
