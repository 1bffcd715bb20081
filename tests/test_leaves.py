"""Promises 61 to 65: a leaf's parts, orders, what is needed, and steps."""

import itertools
import random
import unittest

from rowsbeneath.leaves import best_order, held_by, needs_of, needs_of_sets, parts_of, roots_of, steps_of
from rowsbeneath.steps import Step
from tests import oracle_laying as oracle
from tests.draws import some_e, some_sets
from tests.helpers import ODD_THINGS

A, B, M, N, F = ("place", ("is", 0)), ("place", ("by", 1)), ("mark", ("is", 2)), ("number", 7), ("field", 1)
GET_A, GET_B, ASK_M = ("get", ("is", 0)), ("get", ("by", 1)), ("ask", ("is", 2))


def full(deep):
    """The fullest expression so deep."""
    return A if deep == 1 else ("+", full(deep - 1), full(deep - 1))


def put(*words):
    """Sets of a place, one for each word."""
    return tuple(("place", ("is", 0), e) for e in words)


class Parts(unittest.TestCase):
    def told(self, sets, parts, roots):
        self.assertEqual((parts_of(sets), roots_of(sets)), (parts, roots))

    def test_no_sets(self):
        self.told((), [], [])

    def test_each_sort_of_set(self):
        self.told((("place", ("is", 3), A),), [GET_A], [(0,)])
        self.told((("mark", ("by", 0), A),), [GET_A], [(0,)])
        self.told((("cell", A, M),), [GET_A, ASK_M], [(0, 1)])
        self.told((("cell", ("cell", A), ("-", M, B)),), [GET_A, ("cell", 0), ASK_M, GET_B, ("-", 2, 3)], [(1, 4)])

    def test_numbers_and_fields_alone(self):
        self.told((("place", ("is", 0), N), ("mark", ("is", 0), F), ("cell", F, N), ("cell", N, F)), [], [(N,), (F,), (F, N), (N, F)])
        self.told((("cell", N, A), ("place", ("is", 1), F), ("mark", ("is", 0), M)), [GET_A, ASK_M], [(N, 0), (F,), (1,)])

    def test_each_sort_of_part(self):
        self.told(put(A, M, ("cell", N), ("cell", F), ("<", N, F), ("cell", B)),
                  [GET_A, ASK_M, ("cell", N), ("cell", F), ("<", N, F), GET_B, ("cell", 5)], [(0,), (1,), (2,), (3,), (4,), (6,)])
        self.told(put(("+", A, N)), [GET_A, ("+", 0, N)], [(1,)])
        self.told(put(("<<", F, A)), [GET_A, ("<<", F, 0)], [(1,)])
        for op in ("+", "-", "&", "|", "^", "<<", ">>", "<", "="):
            self.told(put((op, A, M)), [GET_A, ASK_M, (op, 0, 1)], [(2,)])

    def test_the_same_twice(self):
        self.told(put(("+", A, A), ("+", A, A)), [GET_A, GET_A, ("+", 0, 1), GET_A, GET_A, ("+", 3, 4)], [(2,), (5,)])

    def test_four_deep(self):
        e = ("-", ("+", ("cell", A), ("=", M, N)), ("cell", ("&", F, B)))
        self.told(put(e), [GET_A, ("cell", 0), ASK_M, ("=", 2, N), ("+", 1, 3), GET_B, ("&", F, 5), ("cell", 6), ("-", 4, 7)], [(8,)])

    def test_lists_are_new_each_time(self):
        sets = put(A, N)
        for asked in (parts_of, roots_of, best_order):
            told = asked(sets)
            self.assertIs(type(told), list)
            told.append(None)
            self.assertNotEqual(asked(sets), told)

    def test_drawn(self):
        source = random.Random(61)
        for _ in range(400):
            sets = some_sets(source)
            numbers = oracle.numbers(sets)
            parts = [None] * len(numbers)
            for way, number in numbers.items():
                e = oracle.at_way(sets, way)
                inner = tuple(numbers.get(way + (nth,), part) for nth, part in enumerate(oracle.own(e)))
                parts[number] = ({"place": "get", "mark": "ask"}.get(e[0], e[0]), *(inner or e[1:]))
            roots = [tuple(numbers.get(way, e) for way, e in oracle.rests(sets) if way[0] == at) for at in range(len(sets))]
            self.told(sets, parts, roots)


class Orders(unittest.TestCase):
    SETS = put(("+", A, ("cell", B)), N, M)
    # Parts: 0 get A, 1 get B, 2 cell of 1, 3 sum of 0 and 2, 4 ask M.

    def test_held(self):
        for order, held in (([0, 1, 2, 3, 4], [1, 2, 2, 1, 2]), ([1, 2, 0, 3, 4], [1, 1, 2, 1, 2]), ([4, 1, 0, 2, 3], [1, 2, 3, 3, 2]),
                            ([4, 1, 2, 0, 3], [1, 2, 2, 3, 2])):
            self.assertEqual(held_by(self.SETS, order), held)
        self.assertEqual(held_by(put(A, A, A, A), [2, 0, 3, 1]), [1, 2, 3, 4])
        self.assertEqual(held_by(put(("<", N, F), ("cell", N)), [1, 0]), [1, 2])
        self.assertEqual(held_by((("cell", A, B),), [1, 0]), [1, 2])

    def test_without_parts(self):
        for sets in ((), put(N, F)):
            self.assertEqual(held_by(sets, []), [])
            for thing in ([0], (), None, [None], "", {}, 0):
                self.assertIsNone(held_by(sets, thing))

    def test_what_is_no_order(self):
        for thing in ([0, 1, 2, 3], [1, 2, 3, 4], [0, 1, 2, 3, 4, 4], [0, 1, 2, 3, 3], [0, 1, 1, 2, 3], [0, 1, 2, 3, 5], [-1, 0, 1, 2, 3],
                      [0, 2, 1, 3, 4], [3, 0, 1, 2, 4], [0, 1, 3, 2, 4], [1, 2, 3, 0, 4], (0, 1, 2, 3, 4), [False, 1, 2, 3, 4], [0, True, 2, 3, 4],
                      [0, 1, 2, 3, None], [0, 1, 2, 3, "4"], [0, 1, 2, 3, [4]], [[0, 1, 2, 3, 4]], {0: 0, 1: 1, 2: 2, 3: 3, 4: 4}, "01234", [],
                      [0, 1, 2, 3, 4, None], [0, 1, 2, 3, 10 ** 29]) + ODD_THINGS:
            self.assertIsNone(held_by(self.SETS, thing), thing)

    def test_the_order_handed_in_stays(self):
        order = [0, 1, 2, 3, 4]
        told = held_by(self.SETS, order)
        told[0] = 9
        self.assertEqual((order, held_by(self.SETS, order)), ([0, 1, 2, 3, 4], [1, 2, 2, 1, 2]))

    def test_all_orders_of_few_parts(self):
        source = random.Random(62)
        looked = 0
        while looked < 60:
            sets = some_sets(source, 3, 3)
            parts = parts_of(sets)
            if not 2 <= len(parts) <= 6:
                continue
            looked += 1
            greatest = []
            for order in itertools.permutations(range(len(parts))):
                good = all(order.index(own) < order.index(number) for number, part in enumerate(parts) for own in part[1:] if isinstance(own, int))
                held = held_by(sets, list(order))
                if not good:
                    self.assertIsNone(held)
                    continue
                users = {own: number for number, part in enumerate(parts) for own in part[1:] if isinstance(own, int)}
                wanted = [len([n for n in order[:at + 1] if n not in users or users[n] not in order[:at + 1]]) for at in range(len(order))]
                self.assertEqual(held, wanted)
                greatest.append(max(held))
            self.assertEqual(min(greatest), needs_of_sets(sets))


class Needs(unittest.TestCase):
    def test_without_parts(self):
        self.assertEqual([needs_of(e) for e in (N, F, A, B, M)], [0, 0, 1, 1, 1])
        self.assertEqual([needs_of(("place", ("is", 3))), needs_of(("mark", ("by", 2)))], [1, 1])

    def test_cells(self):
        self.assertEqual([needs_of(("cell", e)) for e in (N, F, A, M, ("cell", N), full(2), full(3))], [1, 1, 1, 1, 1, 2, 3])

    def test_of_two(self):
        for one, other, need in ((N, F, 1), (A, N, 1), (F, A, 1), (A, M, 2), (("cell", N), ("cell", F), 2), (("+", N, F), A, 2), (full(2), A, 2),
                                 (A, full(2), 2), (full(2), N, 2), (full(2), full(2), 3), (full(3), full(2), 3), (A, full(3), 3), (full(3), full(3), 4),
                                 (("+", A, N), ("+", N, A), 2), (("cell", full(2)), full(2), 3)):
            for op in ("+", "<<", "=", "&"):
                self.assertEqual((needs_of((op, one, other)), needs_of((op, other, one))), (need, need))

    def test_the_deepest(self):
        self.assertEqual([needs_of(full(deep)) for deep in (1, 2, 3, 4)], [1, 2, 3, 4])
        self.assertEqual(needs_of_sets((("cell", full(4), full(4)),) + put(full(4), full(4), full(4))), 8)

    def test_of_sets(self):
        for sets, need in (((), 0), (put(N, F), 0), (put(A), 1), (put(A, N, A), 2), (put(A, A, A, A), 4), (put(full(3)), 3), (put(full(3), A), 3),
                           (put(A, full(3)), 3), (put(full(3), A, A), 3), (put(full(3), A, A, A), 4), (put(full(2), full(2)), 3),
                           (put(full(3), full(2)), 3), (put(full(2), full(3), full(2)), 4), (put(full(3), full(3)), 4), (put(full(4), full(2), A), 4),
                           ((("cell", A, N),), 1), ((("cell", N, A),), 1), ((("cell", A, A),), 2), ((("cell", full(2), full(2)),), 3),
                           ((("cell", N, F),), 0), ((("mark", ("is", 0), full(2)), ("cell", A, full(2))), 3)):
            self.assertEqual(needs_of_sets(sets), need, sets)

    def test_drawn(self):
        source = random.Random(63)
        for _ in range(500):
            e = some_e(source, 4)
            self.assertEqual(needs_of(e), oracle.needs(e))
            sets = some_sets(source)
            self.assertEqual(needs_of_sets(sets), oracle.needs_of_all(sets))


class Best(unittest.TestCase):
    def test_without_parts(self):
        self.assertEqual((best_order(()), best_order(put(N, F))), ([], []))

    def test_of_one_expression(self):
        for e, order in ((A, [0]), (("+", A, B), [0, 1, 2]), (("+", A, full(2)), [1, 2, 3, 0, 4]), (("+", full(2), A), [0, 1, 2, 3, 4]),
                         (("+", full(2), full(2)), [0, 1, 2, 3, 4, 5, 6]), (("-", N, A), [0, 1]), (("-", ("cell", A), B), [0, 1, 2, 3]),
                         (("-", B, ("cell", A)), [0, 1, 2, 3]), (("-", A, ("+", B, full(2))), [2, 3, 4, 1, 5, 0, 6])):
            self.assertEqual(best_order(put(e)), order, e)

    def test_of_several(self):
        self.assertEqual(best_order(put(A, B, M)), [0, 1, 2])
        self.assertEqual(best_order(put(A, full(2))), [1, 2, 3, 0])
        self.assertEqual(best_order(put(A, full(2), B, full(3), full(2))), [5, 6, 7, 8, 9, 10, 11, 1, 2, 3, 12, 13, 14, 0, 4])
        self.assertEqual(best_order((("cell", A, B),)), [0, 1])
        self.assertEqual(best_order((("cell", A, full(2)),)), [1, 2, 3, 0])
        self.assertEqual(best_order((("cell", full(2), A), ("place", ("is", 0), B))), [0, 1, 2, 3, 4])
        self.assertEqual(best_order((("place", ("is", 0), A), ("cell", N, M), ("mark", ("is", 0), full(2)))), [2, 3, 4, 0, 1])

    def test_drawn(self):
        source = random.Random(64)
        for _ in range(400):
            sets = some_sets(source)
            order = best_order(sets)
            numbers = oracle.numbers(sets)
            self.assertEqual(order, [numbers[way] for way in oracle.best_ways(sets)])
            self.assertEqual(max(held_by(sets, order), default=0), needs_of_sets(sets))

    def test_no_order_holds_fewer(self):
        # Any drawn order: behind some part as many are held as the sets need.
        source = random.Random(6464)
        for _ in range(300):
            sets = some_sets(source)
            parts, order = parts_of(sets), []
            left = set(range(len(parts)))
            while left:
                ready = [n for n in sorted(left) if not left & {own for own in parts[n][1:] if isinstance(own, int)}]
                order.append(source.choice(ready))
                left.remove(order[-1])
            self.assertGreaterEqual(max(held_by(sets, order), default=0), needs_of_sets(sets))


class Steps(unittest.TestCase):
    def told(self, sets, many):
        steps = steps_of(sets, many)
        self.assertIs(type(steps), list)
        for step in steps:
            self.assertIsInstance(step, Step)
        return [step.words() for step in steps]

    def test_without_parts(self):
        self.assertEqual(self.told((), 2), [])
        self.assertEqual(self.told((("place", ("is", 1), N), ("mark", ("by", 2), F), ("cell", N, F)), 2), ["put p1 7", "tell f2 f1", "store 7 f1"])

    def test_each_sort(self):
        self.assertEqual(self.told(put(("+", A, N)), 2), ["get r0 p0", "two r1 + r0 7", "put p0 r1"])
        self.assertEqual(self.told((("mark", ("is", 0), ("cell", M)),), 2), ["ask r0 m2", "cell r1 r0", "tell m0 r1"])
        self.assertEqual(self.told((("cell", B, ("cell", F)),), 2), ["get r0 f1", "cell r1 f1", "store r0 r1"])
        self.assertEqual(self.told((("place", ("by", 0), ("=", F, N)),), 2), ["two r0 = f1 7", "put f0 r0"])

    def test_free_places_go_round(self):
        e = ("+", ("+", A, B), ("+", M, A))
        self.assertEqual(self.told(put(e), 3), ["get r0 p0", "get r1 f1", "two r2 + r0 r1", "ask r0 m2", "get r1 p0", "two r0 + r0 r1",
                                                "two r1 + r2 r0", "put p0 r1"])
        self.assertEqual(self.told(put(e), 8), ["get r0 p0", "get r1 f1", "two r2 + r0 r1", "ask r3 m2", "get r4 p0", "two r5 + r3 r4",
                                                "two r6 + r2 r5", "put p0 r6"])
        # The inner place of the first own part comes back ahead of that of the second, whichever was made first.
        e = ("-", A, ("+", M, B))
        self.assertEqual(self.told(put(e, B), 3), ["ask r0 m2", "get r1 f1", "two r2 + r0 r1", "get r0 p0", "two r1 - r0 r2", "get r0 f1",
                                                   "put p0 r1", "put p0 r0"])

    def test_the_freed_place_may_be_taken_at_once(self):
        self.assertEqual(self.told(put(("cell", ("cell", ("cell", A)))), 2), ["get r0 p0", "cell r1 r0", "cell r0 r1", "cell r1 r0", "put p0 r1"])
        self.assertEqual(self.told(put(("+", A, B)), 2), ["get r0 p0", "get r1 f1", "two r0 + r0 r1", "put p0 r0"])

    def test_sets_in_their_order(self):
        sets = (("place", ("is", 0), A), ("cell", M, ("+", A, B)), ("mark", ("is", 1), N), ("place", ("is", 0), B))
        self.assertEqual(self.told(sets, 5), ["get r0 p0", "get r1 f1", "two r2 + r0 r1", "get r3 p0", "ask r4 m2", "get r0 f1",
                                              "put p0 r3", "store r4 r2", "tell m1 7", "put p0 r0"])

    def test_drawn(self):
        source = random.Random(65)
        for _ in range(400):
            sets = some_sets(source)
            least = max(2, needs_of_sets(sets))
            for many in {least, 8, source.randint(least, 8)}:
                told = [step.told() for step in steps_of(sets, many)]
                self.assertEqual(told, oracle.steps(sets, many))
                self.assertLess(max([step[1] for step in told if isinstance(step[1], int)], default=0), many)
                if needs_of_sets(sets) == 0:
                    self.assertEqual(len(told), len(sets))

    def test_a_held_value_is_never_written_over(self):
        source = random.Random(6565)
        for _ in range(300):
            sets = some_sets(source)
            many = max(2, needs_of_sets(sets))
            parts, order = parts_of(sets), best_order(sets)
            steps = [step.told() for step in steps_of(sets, many)]
            users = {own: number for number, part in enumerate(parts) for own in part[1:] if isinstance(own, int)}
            for at, number in enumerate(order):
                last = order.index(users[number]) if number in users else len(order)
                for step in steps[at + 1:last]:
                    self.assertNotEqual(step[1], steps[at][1])

    def test_what_is_handed_in_stays(self):
        sets = put(("+", A, B), M)
        first = self.told(sets, 4)
        self.assertEqual(self.told(sets, 4), first)
        steps_of(sets, 4).clear()
        self.assertEqual(self.told(sets, 4), first)


if __name__ == "__main__":
    unittest.main()
