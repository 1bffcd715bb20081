"""Promises 131 to 133: a desk of lines."""

import random
import unittest

from rowsbeneath.above import Above
from rowsbeneath.alike import alike
from rowsbeneath.beneath import Beneath
from rowsbeneath.changes import changed
from rowsbeneath.desk import Desk
from rowsbeneath.errors import (BadLine, Crowded, NoBudget, NoChange, NoFit, NoKind, NoLine, NoName, NoPlaces, NoRoom, NoRow, NoSize, NoState,
                                NoText, NotPlain, RowsError, Twice, Unlike, Within)
from rowsbeneath.laying import made_of
from rowsbeneath.papers import paper_of
from rowsbeneath.programs import show_program
from rowsbeneath.spans import span_of
from rowsbeneath.tabletext import read_table, show_table
from tests.draws import TableDrawing, some_program, some_row, some_word, with_a_kind_drawn_anew
from tests.helpers import ODD_THINGS, refusal_of, refuses

TABLE = ("word 8 ; cells 5 ; depth 2 ; places a b ; marks m ; gate ; kind add ( p place , n number ) { set p = ( p + n ) ; next } "
         "kind flag ( q mark , n number ) { set q = n ; next } kind jump ( r row ) { if a { go r } else { next } } kind down ( r row ) { call r } "
         "kind up ( ) { back } kind halt ( ) { stop } kind fail ( ) { set b = 7 ; fault odd } kind save ( n number ) { set [ a ] = n ; next }")
PROGRAM = "add a 5 / add b 7 / halt"
ROOM = ["table " + TABLE, "make 2 40"]
RUN = ROOM + ["program " + PROGRAM]
# What each line needs, with one line of each sort.
LINES = {
    "table": ["table " + TABLE], "make": ["make 2 40"], "program": ["program " + PROGRAM], "begin": ["begin", "begin 1 2"], "ring": ["ring"], "run": ["run 1"],
    "change": ["change up " + TABLE], "show": ["show"], "now": ["now"], "above": ["above"], "little": ["little 0"], "entry": ["entry up"],
    "paper": ["paper up"], "span": ["span up", "span add 0 5"], "alike": ["alike " + TABLE],
}
NEEDS = {"table": 0, "make": 1, "show": 1, "alike": 1, "program": 2, "change": 2, "little": 2, "entry": 2, "paper": 2, "span": 2,
         "begin": 3, "ring": 3, "run": 3, "now": 3, "above": 3}


def desk_with(*lines):
    desk = Desk()
    for line in lines:
        desk.say(line)
    return desk


def answers(desk):
    """What a desk answers to all that only asks: a text or a refusal's class."""
    told = []
    for line in ["show", "now", "above", "alike " + TABLE] + [f"little {at}" for at in range(0, 41, 3)] + [
            f"{word} {kind}" for word in ("entry", "paper", "span") for kind in ("add", "up", "halt", "save", "other")]:
        try:
            told.append(desk.say(line))
        except RowsError as refusal:
            told.append(type(refusal))
    return told


class Lines(unittest.TestCase):
    def no_line(self, desk, line):
        ahead = answers(desk)
        refuses(self, lambda: desk.say(line), NoLine)
        self.assertEqual(answers(desk), ahead, line)

    def test_what_is_no_text(self):
        for desk in (Desk(), desk_with(*RUN)):
            for thing in ODD_THINGS + (("show",), ["show"], 5):
                self.no_line(desk, thing)

    def test_a_line_feed(self):
        desk = desk_with(*RUN)
        for line in ("show\n", "\nshow", "now\nnow", "table " + TABLE.replace(" ; ", ";\n"), "program add a 5\nhalt", "change up\n" + TABLE, "alike \n" + TABLE):
            self.no_line(desk, line)

    def test_words(self):
        desk = desk_with(*RUN)
        for line in ("", " ", "  ", "hello", "Show", "SHOW", "shows", "sho", "now now", "table", "program", "alike", "change", "change up", "change  " + TABLE,
                     "change " + TABLE.split(" ", 1)[0], "tables " + TABLE, "end", "quit", "state", "-", "0", "table\t" + TABLE, "show table", "ring 1", "above 3",
                     "entry", "entry add up", "paper", "paper add up", "make", "make 2", "make 2 40 3", "make two 40", "run", "run 1 2", "run one", "little",
                     "little 0 1", "little a", "begin a", "begin 1 a", "begin 1,2", "span", "span add a 5", "span add 0 x", "entry ", "paper ", "change  x",
                     "span ", "program" + PROGRAM):
            self.no_line(desk, line)

    def test_blanks(self):
        desk = desk_with(*RUN)
        for line in ("show", "now", "above", "ring", "run 1", "make 2 40", "begin 1 2", "begin", "little 0", "entry up", "paper up", "span up", "span add 0 5"):
            for wrong in (" " + line, line + " ", line.replace(" ", "  ", 1) if " " in line else line + "  "):
                self.no_line(desk, wrong)
        for line in (" table " + TABLE, " program halt", " change up " + TABLE, " alike " + TABLE, "change  up " + TABLE):
            self.no_line(desk, line)

    def test_numbers(self):
        desk = desk_with(*RUN)
        for number in ("00", "01", "007", "-1", "+1", "1.0", "1,000", "1000000000", "9999999999", "0x1", "1e3", "", "- 1", "one", "1_0", "12345678901234567890"):
            for line in (f"run {number}", f"little {number}", f"make {number} 40", f"make 2 {number}", f"begin {number}", f"begin 1 {number}", f"begin {number} 1",
                         f"span add 0 {number}", f"span jump {number}"):
                self.no_line(desk, line)
        refuses(self, lambda: desk.say("run 999999999"), NoBudget, 999999999)
        refuses(self, lambda: desk.say("make 999999999 5"), NoPlaces, 999999999)
        refuses(self, lambda: desk.say("make 2 999999999"), NoSize, 999999999)
        self.assertEqual(desk.say("little 999999999"), "-")
        self.assertEqual(type(refusal_of(lambda: desk.say("span jump 999999999"))), NoRow)

    def test_a_desk_that_has_not_what_a_line_needs(self):
        stages = [Desk(), desk_with(ROOM[0]), desk_with(*ROOM), desk_with(*RUN)]
        for has, desk in enumerate(stages):
            for word, lines in LINES.items():
                for line in lines:
                    if has < NEEDS[word]:
                        self.no_line(desk, line)
        for has in range(4):
            for word, lines in LINES.items():
                if has >= NEEDS[word]:
                    for line in lines:
                        self.assertIsInstance(desk_with(*(RUN[:has])).say(line), str)
        # What is no line at all, or has not what it needs, is refused as that ahead of all else.
        for line in ("make 99 99", "run 5000", "program 7", "begin 999", "entry 5", "change zz zz", "alike zz"):
            self.no_line(Desk(), line)

    def test_a_text_without_signs(self):
        desk = desk_with(*RUN)
        refuses(self, lambda: desk.say("table "), NoText, 0)
        refuses(self, lambda: desk.say("alike "), NoText, 0)
        refuses(self, lambda: desk.say("change up "), NoText, 0)
        self.assertEqual(desk.say("program "), "0")
        self.assertEqual(desk.say("run 5"), "0")
        self.assertEqual(desk.say("now"), "end at 0 places 0 0 marks 0 cells 0 0 0 0 0 pile rows 0 bells")

    def test_a_text_may_have_blanks(self):
        desk = Desk()
        self.assertEqual(desk.say("table   " + TABLE.replace(" ", "   ") + "  "), "ok")
        self.assertEqual(desk.say("show"), TABLE)
        self.assertEqual(desk.say("alike  " + TABLE + " "), "alike")
        desk.say("make 2 40")
        self.assertEqual(desk.say("change up  " + TABLE), desk.say("change up " + TABLE))
        refuses(self, lambda: desk.say("program  halt"), BadLine, 0)


class Changing(unittest.TestCase):
    def test_table(self):
        desk = Desk()
        self.assertEqual(desk.say("table " + TABLE), "ok")
        self.assertEqual(desk.say("show"), TABLE)
        desk = desk_with(*RUN)
        other = "word 8 ; cells 5 ; depth 2 ; places a ; marks ; gate ; kind k ( ) { next }"
        self.assertEqual(desk.say("table " + other), "ok")
        self.assertEqual(desk.say("show"), other)
        for line in ("little 0", "entry k", "program k", "now", "run 1", "ring"):
            refuses(self, lambda: desk.say(line), NoLine)

    def test_what_is_refused_changes_nothing(self):
        desk = desk_with(*RUN, "run 4", "ring")
        ahead = answers(desk)
        head = "word 8 ; cells 5 ; depth 2 ; places a b ; marks m ; gate ; "
        for line, sort, fields in (
            ("table word 3", NoText, (1,)), ("table " + head.replace("a b", "a a") + "kind k ( ) { next }", Twice, ("a",)),
            ("table " + head + "kind k ( ) { set z = 1 ; next }", NoName, ("z",)), ("table " + head + "kind k ( r row ) { set a = r ; next }", NoFit, ("r",)),
            ("make 1 40", NoPlaces, (1,)), ("make 9 40", NoPlaces, (9,)), ("make 2 0", NoSize, (0,)), ("make 2 401", NoSize, (401,)), ("make 1 0", NoPlaces, (1,)),
            ("make 2 4", NoRoom, ("jump", None)), ("program add a", BadLine, (0,)), ("program add a 5 / hello", BadLine, (1,)),
            ("program bell 9 / halt", BadLine, (0,)), ("program halt / bell 0", BadLine, (1,)), ("run 2001", NoBudget, (2001,)), ("entry zz", NoKind, ("zz",)), ("paper zz", NoKind, ("zz",)),
            ("alike word", NoText, (1,)), ("alike " + TABLE.replace("depth 2", "depth 3"), Unlike, ("shape",)),
            ("alike " + TABLE.replace("{ back }", "{ set a = ( a & b ) ; back }"), NotPlain, ("up",)), ("change up " + TABLE, Within, ()), ("change zz zz", Within, ()),
        ):
            refusal = refusal_of(lambda: desk.say(line))
            self.assertIs(type(refusal), sort, line)
            self.assertTrue(all(want is None or has == want for has, want in zip(vars(refusal).values(), fields)), line)
            self.assertEqual(answers(desk), ahead, line)
        refusal = refusal_of(lambda: desk.say("begin 1 2 3 4 5 6"))
        self.assertEqual((type(refusal), refusal.thing), (NoState, [1, 2, 3, 4, 5, 6]))
        refusal = refusal_of(lambda: desk.say("begin 256"))
        self.assertEqual((type(refusal), refusal.thing), (NoState, [256]))
        for line, row in (("span add 0", ("add", (0,))), ("span zz 1 2", ("zz", (1, 2))), ("span add 2 5", ("add", (2, 5))), ("span jump 1000", ("jump", (1000,)))):
            refusal = refusal_of(lambda: desk.say(line))
            self.assertEqual((type(refusal), refusal.row), (NoRow, row))
        self.assertEqual(answers(desk), ahead)

    def test_make(self):
        desk = desk_with(ROOM[0])
        self.assertEqual(desk.say("make 2 40"), str(made_of(read_table(TABLE), 2, 40).used()))
        self.assertEqual(desk.say("make 8 400"), str(made_of(read_table(TABLE), 8, 400).used()))
        desk = desk_with(*RUN)
        desk.say("make 3 50")
        for line in ("now", "run 1", "begin"):
            refuses(self, lambda: desk.say(line), NoLine)
        crowded = Desk()
        crowded.say("table word 8 ; cells 5 ; depth 2 ; places a ; marks ; gate ; kind k ( ) { set a = ( ( a + a ) + ( a + a ) ) ; next }")
        refusal = refusal_of(lambda: crowded.say("make 2 40"))
        self.assertEqual((type(refusal), refusal.kind, refusal.needed), (Crowded, "k", 3))

    def test_program(self):
        desk = desk_with(*ROOM)
        self.assertEqual(desk.say("program halt"), "1")
        self.assertEqual(desk.say("program " + PROGRAM), "3")
        self.assertEqual(desk.say("program bell 3 / " + PROGRAM), "3")
        self.assertEqual(desk.say("program bell 0"), "0")
        desk.say("program bell 1 / halt / add b 1 / up")
        desk.say("ring")
        desk.say("run 9")
        self.assertEqual(desk.say("now"), "stop at 0 places 0 1 marks 0 cells 0 0 0 0 0 pile rows 3 bells 0")
        for text, line in (("add a 5 /halt", 0), ("add a 5 / / halt", 1), ("halt / ", 1), (" / halt", 0), ("/", 0), ("halt  / halt", 0)):
            refuses(self, lambda: desk.say("program " + text), BadLine, line)
        many = " / ".join(["halt"] * 40)
        self.assertEqual(desk.say("program " + many), "40")
        refuses(self, lambda: desk.say("program " + many + " / halt"), BadLine, 40)
        # A program begins a run anew, without the cells that were handed in.
        desk = desk_with(*RUN, "begin 1 2 3", "run 2")
        desk.say("program halt")
        self.assertEqual(desk.say("now"), "on at 0 places 0 0 marks 0 cells 0 0 0 0 0 pile rows 0 bells")

    def test_begin(self):
        desk = desk_with(*RUN)
        desk.say("run 5")
        self.assertEqual(desk.say("begin"), "ok")
        self.assertEqual(desk.say("now"), "on at 0 places 0 0 marks 0 cells 0 0 0 0 0 pile rows 0 bells")
        self.assertEqual(desk.say("begin 9 8 255"), "ok")
        self.assertEqual(desk.say("now"), "on at 0 places 0 0 marks 0 cells 9 8 255 0 0 pile rows 0 bells")
        self.assertEqual(desk.say("begin 1 2 3 4 5"), "ok")
        desk.say("run 9")
        self.assertEqual(desk.say("now"), "stop at 2 places 5 7 marks 0 cells 1 2 3 4 5 pile rows 3 bells")
        self.assertEqual(desk.say("above"), desk.say("now"))

    def test_ring_and_run(self):
        desk = desk_with(*ROOM, "program bell 2 / add a 1 / halt / add b 1 / up")
        self.assertEqual(desk.say("run 1"), "1")
        self.assertEqual(desk.say("ring"), "ok")
        self.assertEqual(desk.say("run 0"), "0")
        self.assertEqual(desk.say("run 2000"), "7")
        self.assertEqual(desk.say("now"), "stop at 1 places 1 1 marks 0 cells 0 0 0 0 0 pile rows 4 bells 1")
        self.assertEqual(desk.say("run 10"), "0")

    def test_change(self):
        minus = TABLE.replace("( p + n )", "( p - n )")
        made = changed(made_of(read_table(TABLE), 2, 40), read_table(minus), "add")
        desk = desk_with(*ROOM)
        self.assertEqual(desk.say("change add " + minus), str(made.used()))
        self.assertEqual(desk.say("show"), minus)
        self.assertEqual([desk.say(f"little {at}") for at in range(40)], ["-" if row is None else row.words() for row in made.rows_laid()])
        self.assertEqual(desk.say("entry add"), str(made.entry("add")))
        refuses(self, lambda: desk.say("now"), NoLine)
        desk.say("program " + PROGRAM)
        desk.say("run 20")
        self.assertEqual(desk.say("now").split(" ")[3:6], ["places", "251", "249"])

    def test_change_in_a_run(self):
        minus = TABLE.replace("( p + n )", "( p - n )")
        desk = desk_with(*RUN, "begin 4 4", "run 2")
        for line in ("change add " + minus, "change add zz", "change zz " + minus, "change add " + minus.replace("depth 2", "depth 1"), "change add "):
            refuses(self, lambda: desk.say(line), Within)
        refuses(self, lambda: desk.say("change add"), NoLine)
        self.assertEqual(desk.say("show"), TABLE)
        desk.say("run 1")
        for line, sort, fields in (("change zz zz", NoText, (0,)), ("change zz " + minus, NoKind, ("zz",)), ("change add " + minus.replace("depth 2", "depth 1"), Unlike, ("shape",)),
                                   ("change up " + minus, NoChange, ("add",))):
            refuses(self, lambda: desk.say(line), sort, *fields)
        desk.say("change add " + minus)
        self.assertEqual(desk.say("now"), "on at 1 places 5 0 marks 0 cells 4 4 0 0 0 pile rows 1 bells")
        desk.say("run 20")
        self.assertEqual(desk.say("now"), "stop at 2 places 5 249 marks 0 cells 4 4 0 0 0 pile rows 3 bells")
        # The machine above goes by the table as it is now, from its first row on.
        self.assertEqual(desk.say("above"), "stop at 2 places 251 249 marks 0 cells 4 4 0 0 0 pile rows 3 bells")
        desk.say("begin")
        desk.say("run 20")
        self.assertEqual(desk.say("now"), desk.say("above"))
        desk.say("make 3 60")
        self.assertEqual(desk.say("show"), minus)

    def test_change_that_is_crowded_or_has_no_room(self):
        desk = desk_with(ROOM[0], "make 2 " + str(made_of(read_table(TABLE), 2, 400).used()))
        ahead = answers(desk)
        refusal = refusal_of(lambda: desk.say("change up " + TABLE.replace("{ back }", "{ set a = ( ( a + b ) + ( a + b ) ) ; back }")))
        self.assertEqual((type(refusal), refusal.kind, refusal.needed), (Crowded, "up", 3))
        refusal = refusal_of(lambda: desk.say("change up " + TABLE.replace("{ back }", "{ set a = ( a - b ) ; back }")))
        self.assertEqual((type(refusal), refusal.kind, refusal.lacking), (NoRoom, "up", 3))
        self.assertEqual(answers(desk), ahead)


class Asking(unittest.TestCase):
    def test_show(self):
        text = "word 4;cells 4;depth 0;places a;marks;gate;kind k(){next}kind l(x number){set[a]=x;stop}"
        desk = desk_with("table " + text)
        self.assertEqual(desk.say("show"), "word 4 ; cells 4 ; depth 0 ; places a ; marks ; gate ; kind k ( ) { next } kind l ( x number ) { set [ a ] = x ; stop }")

    def test_now_in_each_state(self):
        desk = desk_with(*ROOM)
        for program, beats, told in (
            ("add a 5 / halt", 0, "on at 0 places 0 0 marks 0 cells 0 0 0 0 0 pile rows 0 bells"),
            ("add a 5 / halt", 1, "on at 0 places 0 0 marks 0 cells 0 0 0 0 0 pile rows 0 bells within"),
            ("add a 5 / halt", 3, "on at 1 places 5 0 marks 0 cells 0 0 0 0 0 pile rows 1 bells"),
            ("add a 5 / halt", 9, "stop at 1 places 5 0 marks 0 cells 0 0 0 0 0 pile rows 2 bells"),
            ("add a 5", 9, "end at 1 places 5 0 marks 0 cells 0 0 0 0 0 pile rows 1 bells"),
            ("fail", 9, "fault odd at 0 places 0 7 marks 0 cells 0 0 0 0 0 pile rows 1 bells"),
            ("up", 9, "fault bare at 0 places 0 0 marks 0 cells 0 0 0 0 0 pile rows 1 bells"),
            ("down 0", 9, "fault deep at 0 places 0 0 marks 0 cells 0 0 0 0 0 pile 1 1 rows 3 bells"),
            ("flag m 3 / down 2 / save 9 / halt", 9, "stop at 3 places 0 0 marks 1 cells 9 0 0 0 0 pile 2 rows 4 bells"),
        ):
            desk.say("program " + program)
            desk.say(f"run {beats}")
            self.assertEqual(desk.say("now"), told)
            self.assertEqual(desk.say("now"), told)
        bare = desk_with("table word 4 ; cells 4 ; depth 0 ; places a ; marks ; gate ; kind k ( ) { next }", "make 2 4", "program k")
        self.assertEqual(bare.say("now"), "on at 0 places 0 marks cells 0 0 0 0 pile rows 0 bells")

    def test_above(self):
        desk = desk_with(*ROOM, "program bell 3 / add a 5 / add a 5 / halt / add b 1 / up", "begin 3")
        self.assertEqual(desk.say("above"), desk.say("now"))
        desk.say("run 1")
        desk.say("ring")
        self.assertEqual(desk.say("above"), "on at 0 places 0 0 marks 0 cells 3 0 0 0 0 pile rows 0 bells")
        desk.say("run 5")
        self.assertEqual(desk.say("now"), "on at 4 places 5 1 marks 0 cells 3 0 0 0 0 pile 1 rows 2 bells 1")
        self.assertEqual(desk.say("above"), desk.say("now"))
        desk.say("run 20")
        self.assertEqual(desk.say("above"), desk.say("now"))
        self.assertEqual(desk.say("now"), "stop at 2 places 10 1 marks 0 cells 3 0 0 0 0 pile rows 5 bells 1")

    def test_above_is_asked_for_just_as_many_rows(self):
        desk = desk_with(*ROOM, "program add a 5", "run 9")
        self.assertEqual(desk.say("now"), "end at 1 places 5 0 marks 0 cells 0 0 0 0 0 pile rows 1 bells")
        self.assertEqual(desk.say("above"), "on at 1 places 5 0 marks 0 cells 0 0 0 0 0 pile rows 1 bells")

    def test_above_behind_many_rows(self):
        program = "bell 4 / add a 1 / jump 0 / add a 1 / jump 0 / add b 1 / up"
        desk = desk_with(*ROOM, "program " + program, "begin 1")
        for _ in range(7):
            desk.say("run 1999")
            desk.say("ring")
        while desk.say("now").endswith("within"):
            desk.say("run 1")
        now = desk.say("now")
        self.assertGreater(int(now.split(" rows ")[1].split(" ")[0]), 4000)
        self.assertGreater(len(now.split(" bells ")[1].split(" ")), 3)
        self.assertEqual(desk.say("above"), now)

    def test_little_entry_paper_span(self):
        desk = desk_with(*ROOM)
        made = made_of(read_table(TABLE), 2, 40)
        self.assertEqual([desk.say(f"little {at}") for at in range(43)], ["-" if row is None else row.words() for row in made.rows_laid()] + ["-"] * 3)
        self.assertEqual(desk.say("little 0"), "put f0 r1 : done next")
        for kind in made.table.kinds:
            self.assertEqual(desk.say("entry " + kind), str(made.entry(kind)))
            self.assertEqual(desk.say("paper " + kind), str(len(paper_of(made, kind))))
        self.assertEqual(desk.say("span add 1 255"), "3 3 low 0 0 0 high 0 0 0")
        self.assertEqual(desk.say("span jump 999"), "2 2 low 1 0 0 high 1 0 0")
        self.assertEqual(desk.say("span up"), "1 1 low 0 0 0 high 0 0 0")
        tops = desk_with("table word 4 ; cells 4 ; depth 0 ; places a b ; marks m n ; gate ; kind k ( p place , q mark ) { if q { next } else { if top p { set a = b ; next } else { stop } } }",
                         "make 2 20")
        self.assertEqual(tops.say("span k 1 0"), "2 4 low 0 0 1 0 high 0 8 0 0")

    def test_alike(self):
        desk = desk_with(ROOM[0])
        self.assertEqual(desk.say("alike " + TABLE), "alike")
        self.assertEqual(desk.say("alike " + TABLE.replace("( p + n )", "( n + p )")), "alike")
        for old, new, kind in (("( p + n )", "( p - n )", "add"), ("{ back }", "{ stop }", "up"), ("if a", "if top a", "jump")):
            other = TABLE.replace(old, new)
            row = alike(read_table(TABLE), read_table(other))[1]
            self.assertEqual(row[0], kind)
            self.assertEqual(desk.say("alike " + other), " ".join(["parted", kind] + [str(number) for number in row[1]]))
        self.assertEqual(desk.say("show"), TABLE)


class Desks(unittest.TestCase):
    def test_two_desks_beside_one_another(self):
        one, other = desk_with(*RUN), desk_with(*RUN)
        one.say("run 4")
        one.say("ring")
        one.say("run 2")
        self.assertEqual(answers(other), answers(desk_with(*RUN)))
        other.say("table word 4 ; cells 4 ; depth 0 ; places a ; marks ; gate ; kind k ( ) { next }")
        self.assertEqual(answers(one), answers(desk_with(*RUN, "run 4", "ring", "run 2")))

    def test_drawn_lines(self):
        source = random.Random(131)
        for _ in range(25):
            drawing = TableDrawing(source, deep=2, choices=2)
            text = drawing.text()
            desk, table = desk_with("table " + text.replace("\n", " ")), read_table(text)
            try:
                made = made_of(table, 6, 400)
            except RowsError:
                continue
            self.assertEqual(desk.say("make 6 400"), str(made.used()))
            program = some_program(source, table)
            words = show_program(table, program)
            self.assertEqual(desk.say("program " + words.replace("\n", " / ")), str(len(program.rows)))
            machine, cells = Beneath(made, program), []
            for _ in range(30):
                deed = source.randrange(7)
                if deed == 0:
                    cells = [some_word(source, table.width) for _ in range(source.randint(0, table.cells))]
                    self.assertEqual(desk.say(" ".join(["begin"] + [str(word) for word in cells])), "ok")
                    machine = Beneath(made, program, cells)
                elif deed == 1:
                    desk.say("ring")
                    machine.ring()
                elif deed in (2, 3):
                    beats = source.randint(0, 9)
                    self.assertEqual(desk.say(f"run {beats}"), str(machine.run(beats)))
                elif deed == 4:
                    text_new, kind = with_a_kind_drawn_anew(source, drawing, text, 1)
                    line = f"change {kind} " + text_new.replace("\n", " ")
                    if machine.within():
                        refuses(self, lambda: desk.say(line), Within)
                        continue
                    made_new = None
                    try:
                        made_new = changed(made, read_table(text_new), kind)
                    except RowsError as refusal:
                        self.assertIs(type(refusal_of(lambda: desk.say(line))), type(refusal))
                    if made_new is not None:
                        self.assertEqual(desk.say(line), str(made_new.used()))
                        made, text = made_new, text_new
                        machine.change(made)
                elif deed == 5:
                    row = some_row(source, made.table)
                    least, most, low, high = span_of(made, row)
                    told = [least, most, "low", *low[0], *low[1], "high", *high[0], *high[1]]
                    line = " ".join(["span", row[0]] + [str(number) for number in row[1]])
                    self.assertEqual(desk.say(line), " ".join(str(thing) for thing in told))
                seen = machine.seen()
                words = [seen[0]] + ([seen[1]] if seen[0] == "fault" else []) + ["at", seen[2]]
                for name, things in zip(("places", "marks", "cells", "pile"), seen[3:7]):
                    words += [name, *things]
                words += ["rows", seen[7], "bells", *seen[8]] + (["within"] if machine.within() else [])
                self.assertEqual(desk.say("now"), " ".join(str(word) for word in words))
                above = Above(made.table, program, cells)
                above.run(seen[7], list(seen[8]))
                self.assertEqual(desk.say("above").split(" ")[0], above.seen()[0])
                self.assertEqual(desk.say("show"), show_table(made.table).replace("\n", " "))


if __name__ == "__main__":
    unittest.main()
