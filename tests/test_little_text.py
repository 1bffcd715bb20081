"""Promises 47 and 48: the texts of little rows and of rooms, written and read."""

import random
import unittest

from rowsbeneath.errors import BadLine
from rowsbeneath.little import Little, little_of
from rowsbeneath.littletext import read_little, read_room, show_room
from tests.draws import OPS, some_on, some_step
from tests.helpers import ODD_THINGS, refusal_of, refuses

# For each text of a step its tuple.
STEPS = {
    "get r0 p1": ("get", 0, ("is", 1)), "get r7 p3": ("get", 7, ("is", 3)), "get r0 f2": ("get", 0, ("by", 2)),
    "ask r0 m0": ("ask", 0, ("is", 0)), "ask r1 m3": ("ask", 1, ("is", 3)), "ask r1 f0": ("ask", 1, ("by", 0)),
    "cell r1 r0": ("cell", 1, ("in", 0)), "cell r1 0": ("cell", 1, ("number", 0)), "cell r1 f2": ("cell", 1, ("field", 2)),
    "two r0 + r0 r1": ("two", 0, "+", ("in", 0), ("in", 1)), "two r7 << f0 16777215": ("two", 7, "<<", ("field", 0), ("number", 2 ** 24 - 1)),
    "two r2 = 10 r7": ("two", 2, "=", ("number", 10), ("in", 7)), "two r0 - 7 f1": ("two", 0, "-", ("number", 7), ("field", 1)),
    "put p0 r1": ("put", ("is", 0), ("in", 1)), "put p3 17": ("put", ("is", 3), ("number", 17)), "put f1 f2": ("put", ("by", 1), ("field", 2)),
    "tell m0 r0": ("tell", ("is", 0), ("in", 0)), "tell f2 1": ("tell", ("by", 2), ("number", 1)), "tell m3 f0": ("tell", ("is", 3), ("field", 0)),
    "store r0 17": ("store", ("in", 0), ("number", 17)), "store 0 r7": ("store", ("number", 0), ("in", 7)),
    "store f0 f1": ("store", ("field", 0), ("field", 1)),
}
WAYS_ON = {
    "on 3": ("on", 3), "on 0": ("on", 0), "on 399": ("on", 399), "some r0 3 4": ("some", 0, 3, 4), "some r7 399 0": ("some", 7, 399, 0),
    "top r0 3 4": ("top", 0, 3, 4), "top r1 0 399": ("top", 1, 0, 399), "done next": ("done", ("next",)), "done go f1": ("done", ("go", 1)),
    "done call f2": ("done", ("call", 2)), "done back": ("done", ("back",)), "done stop": ("done", ("stop",)),
    "done fault odd": ("done", ("fault", "odd")), "done fault abcdefgh": ("done", ("fault", "abcdefgh")), "done fault f": ("done", ("fault", "f")),
}
BAD_STEPS = (
    "", " ", "get", "get r0", "get r0 p1 p1", "get  r0 p1", "get r0  p1", " get r0 p1", "get r0 p1 ", "get r8 p1", "get r00 p1", "get r01 p1",
    "get r p1", "get 0 p1", "get f0 p1", "get p0 p1", "get r0 p4", "get r0 p01", "get r0 p", "get r0 m1", "get r0 1", "get r0 r1", "get r0 f3",
    "get r0 f00", "get r-1 p0", "get r0 p-1", "Get r0 p1", "get R0 p1", "got r0 p1", "get,r0,p1", "get r0 pp1", "get r0 is1", "get r0 p 1",
    "ask r0 p0", "ask r0 m4", "ask r0 m00", "ask r0 m", "ask r8 m0", "ask m0 r0", "ask r0 f3", "ask r0", "cell r1", "cell r1 p0", "cell r1 m0",
    "cell r1 r8", "cell r1 16777216", "cell r1 00", "cell r1 01", "cell r1 -1", "cell r1 +1", "cell r1 f3", "cell r1 r", "cell r1 f", "cell r1 a",
    "cell 1 r0", "cell r1 r0 r0", "cell r1 9999999999999999999999", "cell r1 " + "9" * 5000, "cell r1 1_0", "two r0 + r0", "two r0 r0 r1",
    "two r0 + r0 r1 r1", "two r0 * r0 r1", "two r0 ++ r0 r1", "two r0 == r0 r1", "two r0 > r0 r1", "two 0 + r0 r1", "two r8 + r0 r1", "two r0 + r8 r1",
    "two r0 + r0 r8", "two r0 + p0 r1", "two r0 + 16777216 0", "two r0 + 0 16777216", "two r0 + f3 0", "two r0 + 0 f3", "two r0  r0 r1", "put p0",
    "put m0 r0", "put p4 r0", "put r0 r0", "put p0 r8", "put p0 p0", "put f3 r0", "put p0 r1 r1", "put 0 r0", "tell p0 r0", "tell m4 r0", "tell m0 m0",
    "tell m0 r8", "tell f3 r0", "tell m0", "tell m0 r0 r0", "store r0", "store r0 17 17", "store p0 17", "store r8 17", "store r0 16777216",
    "store 17 p0", "store f3 r0", "store r0 f3", "Store r0 17", "stored r0 17", "on 3", "done next", "some r0 3 4", "r0 p1 get", "-", ":", ",",
)
BAD_WAYS_ON = (
    "", " ", "on", "on ", "on 400", "on 00", "on 03", "on -1", "on r0", "on f0", "on 3 4", "on  3", " on 3", "on 3 ", "on a", "on 4000000000000", "On 3",
    "some r0 3", "some r0 3 4 5", "some r8 3 4", "some 0 3 4", "some r0 400 4", "some r0 3 400", "some r0 r3 4", "some r00 3 4", "some r0 03 4",
    "some r0 3 04", "some f0 3 4", "some r0  3 4", "top r0 3", "top r8 3 4", "top r0 3 400", "top r0 400 3", "top p0 3 4", "top 0 3 4", "done",
    "done ", "done go", "done go f3", "done go 1", "done go r1", "done go f01", "done go f", "done go f1 f1", "done call", "done call f3", "done call 1",
    "done next next", "done next 0", "done back f0", "done stop 1", "done  next", " done next", "done next ", "done fault", "done fault ",
    "done fault deep", "done fault bare", "done fault abcdefghi", "done fault Odd", "done fault o1", "done fault next", "done fault fault",
    "done fault bell", "done fault a b", "done fault  a", "done deep", "done on", "next", "go f1", "fault odd", "stop", "done done next", "end",
    "get r0 p1", "-", ":", ": on 3", "on 3 : on 3", "on 3,", "on 3 , on 4",
)


class Read(unittest.TestCase):
    def both_ways(self, text, told):
        little = read_little(text)
        self.assertIsInstance(little, Little)
        self.assertEqual(little.told(), told)
        self.assertEqual(little_of(told).words(), text)

    def test_every_step_and_way_on(self):
        for words, step in STEPS.items():
            for on_words, on in WAYS_ON.items():
                self.both_ways(f"{words} : {on_words}", ((step,), on))

    def test_no_steps(self):
        for words, on in WAYS_ON.items():
            self.both_ways(": " + words, ((), on))

    def test_several_steps(self):
        for many in (2, 3, 15, 16):
            words, told = list(STEPS)[:many], list(STEPS.values())[:many]
            self.both_ways(" , ".join(words) + " : on 7", (tuple(told), ("on", 7)))
        for many in (17, 18, 100):
            self.refused(" , ".join(["get r0 p1"] * many) + " : on 7")

    def test_every_operation(self):
        for op in OPS:
            self.both_ways(f"two r0 {op} r1 2 : on 0", ((("two", 0, op, ("in", 1), ("number", 2)),), ("on", 0)))

    def test_drawn(self):
        source = random.Random(47)
        for _ in range(400):
            told = (tuple(some_step(source) for _ in range(source.choice([0, 1, 2, 16]))), some_on(source))
            self.both_ways(little_of(told).words(), told)

    def refused(self, thing):
        refuses(self, lambda: read_little(thing), BadLine, 0)

    def test_bad_steps(self):
        for words in BAD_STEPS:
            self.refused(words + " : on 3")
            self.refused("get r0 p1 , " + words + " : on 3")
            self.refused(words + " , get r0 p1 : on 3")

    def test_bad_ways_on(self):
        for words in BAD_WAYS_ON:
            self.refused(": " + words)
            self.refused("get r0 p1 : " + words)

    def test_blanks_and_signs_between(self):
        for text in ("", " ", ":", ": ", " : on 3", ":on 3", ":  on 3", ": on 3 ", ": on 3\n", "\n: on 3", ": on\n3", "on 3", "get r0 p1", "get r0 p1:on 3",
                     "get r0 p1: on 3", "get r0 p1 :on 3", "get r0 p1  : on 3", "get r0 p1 :  on 3", " get r0 p1 : on 3", "get r0 p1 : on 3\n",
                     "get r0 p1\n: on 3", "get r0 p1 , : on 3", ", get r0 p1 : on 3", " , get r0 p1 : on 3", "get r0 p1 ,get r0 p1 : on 3",
                     "get r0 p1, get r0 p1 : on 3", "get r0 p1  , get r0 p1 : on 3", "get r0 p1 ,  get r0 p1 : on 3", "get r0 p1 get r0 p1 : on 3",
                     "get r0 p1 , , get r0 p1 : on 3", "get r0 p1 : get r0 p1 : on 3", ": get r0 p1 : on 3", "get r0 p1 : : on 3", ": : on 3",
                     "get r0 p1 ; get r0 p1 : on 3", "get r0 p1 : on 3 : on 3", "-", "get r0 p1 :", "get r0 p1 : ", "get r0 p1 :\non 3"):
            self.refused(text)

    def test_things_of_all_kinds(self):
        for thing in ODD_THINGS + (b": on 3", [": on 3"], little_of(((), ("on", 3))), ((), ("on", 3)), 3):
            self.refused(thing)

    def test_what_is_read_is_what_is_written_so(self):
        # Texts spoilt in one sign: what is still read has just this text.
        source = random.Random(4747)
        pool = " :,-+<=0123456789rpmfgeoasktwdnxcl\n"
        read = 0
        for _ in range(6000):
            steps = [some_step(source) for _ in range(source.choice([0, 1, 2, 3]))]
            text = little_of((tuple(steps), some_on(source))).words()
            at = source.randrange(len(text))
            spoilt = source.choice([text[:at] + text[at + 1:], text[:at] + source.choice(pool) + text[at:],
                                    text[:at] + source.choice(pool) + text[at + 1:]])
            refusal = refusal_of(lambda: read_little(spoilt))
            if refusal is None:
                read += 1
                self.assertEqual(read_little(spoilt).words(), spoilt)
            else:
                self.assertEqual((type(refusal), refusal.line), (BadLine, 0))
        self.assertGreater(read, 200)


class Rooms(unittest.TestCase):
    GET = "get r0 p1 , two r1 + r0 17 : on 2"

    def test_written_and_read(self):
        told = [((STEPS["get r0 p1"], ("two", 1, "+", ("in", 0), ("number", 17))), ("on", 2)), None, ((), ("done", ("next",)))]
        room = [None if row is None else little_of(row) for row in told]
        text = self.GET + "\n-\n: done next"
        self.assertEqual(show_room(room), text)
        read = read_room(text)
        self.assertIs(type(read), list)
        self.assertEqual([None if little is None else little.told() for little in read], told)
        self.assertEqual(show_room(read), text)

    def test_one_address(self):
        self.assertEqual((show_room([None]), read_room("-")), ("-", [None]))
        self.assertEqual(show_room([little_of(((), ("on", 0)))]), ": on 0")
        self.assertEqual([little.told() for little in read_room(": on 0")], [((), ("on", 0))])

    def test_four_hundred_and_one_more(self):
        for row in ("-", ": on 399", self.GET):
            text = "\n".join([row] * 400)
            self.assertEqual(len(read_room(text)), 400)
            self.assertEqual(show_room(read_room(text)), text)
            self.refused("\n".join([row] * 401), 400)
            self.refused("\n".join([row] * 450), 400)
            self.refused("\n".join([row] * 400 + ["bad"]), 400)
            self.refused("\n".join([row] * 399 + ["bad", row]), 399)
            self.refused(text + "\n", 400)

    def refused(self, thing, line):
        refuses(self, lambda: read_room(thing), BadLine, line)

    def test_bad_rows(self):
        for bad in ("", " ", "--", "- ", " -", ":", "on 3", "get r0 p1", "get r8 p1 : on 3", ": on 400", ": done fault deep", "None", self.GET + " "):
            self.refused(bad, 0)
            self.refused("\n".join([self.GET, "-", bad, "-"]), 2)
            self.refused("\n".join([self.GET, bad, bad, "-"]), 1)
            self.refused("-\n" + bad, 1)
        self.refused("\n", 0)
        self.refused("-\n", 1)
        self.refused("\n-", 0)
        self.refused("-\n\n-", 1)

    def test_what_is_no_text(self):
        for thing in ODD_THINGS + (b"-", ["-"], [None], little_of(((), ("on", 0)))):
            if not isinstance(thing, str):
                self.refused(thing, 0)

    def test_the_room_is_the_askers_own(self):
        text = "-\n: on 0"
        room = read_room(text)
        room.append(None)
        self.assertEqual(show_room(read_room(text)), text)
        kept = list(room)
        show_room(room)
        self.assertEqual(room, kept)


if __name__ == "__main__":
    unittest.main()
