"""Promise 75: rows done on a made room from their kind's entry on."""

import random
import unittest

from rowsbeneath.above import row_done, state_of
from rowsbeneath.errors import RowsError
from rowsbeneath.laying import made_of
from rowsbeneath.little import row_beneath
from rowsbeneath.littletext import read_room, show_room
from rowsbeneath.tabletext import read_table
from tests.draws import some_row, some_state, some_table, some_word
from tests.oracle_above import value
from tests.oracle_laying import leaves


def leaf_number(table, state, row):
    """The number of the leaf, in reading order, to which a row's tests lead."""
    deed, ahead = table.deed(row[0]), 0
    while deed[0] == "if":
        sort, sel = deed[1]
        word = value(table, state.told(), row[1], ("mark" if sort == "mark" else "place", sel))
        if word >= (2 ** (table.width - 1) if sort == "top" else 1):
            deed = deed[2]
        else:
            ahead += len(leaves(deed[2]))
            deed = deed[3]
    return ahead


class RowsOnTheirRoom(unittest.TestCase):
    def same(self, made, state, row, inner=None):
        """Looks that a row does beneath what it does above; the beats it took."""
        room = made.rows_laid()
        behind, beats = row_beneath(made.table, room, made.many, made.entry(row[0]), state, row, 2000, inner)
        self.assertEqual(behind.told(), row_done(made.table, state, row).told())
        self.assertEqual(beats, made.lengths(row[0])[leaf_number(made.table, state, row)])
        self.assertIsNone(row_beneath(made.table, room, made.many, made.entry(row[0]), state, row, beats - 1, inner) if beats > 1 else None)
        return beats

    def test_a_swap(self):
        table = read_table("word 8 ; cells 4 ; depth 1 ; places a b ; marks m ; gate ; "
                           "kind swap ( p place , q place ) { if m { set p = q ; set q = p ; next } else { set [ p ] = q ; set m = p ; stop } }")
        made = made_of(table, 3, 20)
        for marks, operands in (([0], (0, 1)), ([1], (0, 1)), ([1], (1, 0)), ([0], (1, 1)), ([1], (0, 0))):
            for inner in (None, [255, 255, 255], [0, 7, 1]):
                state = state_of(table, 3, [5, 9], marks, [1, 2, 3, 4], [7])
                self.assertEqual(self.same(made, state, ("swap", operands), inner), 6 - marks[0])

    def test_each_end(self):
        for end in ("next", "go r", "call r", "back", "stop", "fault odd"):
            table = read_table("word 4 ; cells 4 ; depth 1 ; places a ; marks ; gate ; kind k ( r row ) { if a { " + end
                               + " } else { set a = 3 ; " + end + " } }")
            for pile in ([], [12]):
                for word in (0, 1):
                    self.assertEqual(self.same(made_of(table, 2, 9), state_of(table, 4, [word], None, None, pile), ("k", (999,))), 2)

    def test_drawn(self):
        source = random.Random(75)
        made_rooms, lengths = 0, set()
        while made_rooms < 200:
            table = some_table(source, source.choice([2, 3, 4]), 3, 6)
            many = source.randint(2, 8)
            try:
                made = made_of(table, many, 400)
            except RowsError:
                continue
            made_rooms += 1
            for _ in range(15):
                row, state = some_row(source, table), some_state(source, table)
                inner = source.choice([None, [some_word(source, table.width) for _ in range(many)]])
                lengths.add(self.same(made, state, row, inner))
        self.assertGreater(max(lengths), 20)

    def test_a_room_read_again(self):
        source = random.Random(4875)
        for _ in range(30):
            table = some_table(source, 3, 2, 4)
            made = made_of(table, 8, 400)
            self.assertEqual([None if little is None else little.told() for little in read_room(show_room(made.rows_laid()))], made.room_told())


if __name__ == "__main__":
    unittest.main()
