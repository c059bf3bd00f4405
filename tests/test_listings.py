"""Listings: [149] and the section toldorfree/listings.py."""

import unittest

from tests.asking import Asking
from tests.samples import BENT, FAIR, FIVE, GROUPS, NO_LISTS, SORTS, UNFAIR, bent, four_points, ring
from tests.wholes import MORE, TREES, plain_pieces, plain_piece_table, plain_sorts
from toldorfree.desks import Desk
from toldorfree.errors import NoRow
from toldorfree.listings import line_of, listing
from toldorfree.ranks import hangs_together
from toldorfree.tables import Table
from toldorfree.trials import Trial


def plain_line(row):
    return " ".join((" " + str(sign))[-2:] for sign in row)


class LineTest(Asking):
    def test_lines(self):
        for table in FAIR + SORTS + UNFAIR:
            for row in table.rows[:9] + table.rows[-1:]:
                self.assertEqual(line_of(table, row), plain_line(row))
                self.assertEqual(line_of(table, list(row)), plain_line(row))
        table = Table(36, [(0, 9, 10, 35)])
        self.assertEqual(line_of(table, [0, 9, 10, 35]), " 0  9 10 35")
        self.assertEqual(line_of(Table(12, [(7,)]), (7,)), " 7")

    def test_no_rows(self):
        table = UNFAIR[0]
        for row in NO_LISTS + ((), (0,), (1, 1), [1, 1], (0, 0, 0), [False, True], "00", ((0, 0),), (0.0, 0)):
            self.wrong(NoRow, "row", row, line_of, table, row)
        self.assertEqual(line_of(table, [0, 1]), " 0  1")


class ListingTest(Asking):
    def plainly(self, desk, sorts):
        table = desk.now
        rank = [rank for rank in range(9) if table.signs ** rank == table.many][0]
        lines = [f"signs {table.signs} columns {table.columns} rows {table.many} rank {rank}",
                 "deeds: " + (", ".join(desk.deeds) or "none"),
                 "dealt: " + ("none" if desk.wanted is None else str(desk.wanted)), "pieces: " + sorts]
        return "\n".join(lines + [plain_line(row) for row in table])

    def sorts(self, table):
        if not hangs_together(table):
            return "-"
        return ", ".join(plain_sorts(plain_piece_table(table, lots))[0] for lots in plain_pieces(table))

    def test_tables_of_all_sorts(self):
        seen = set()
        for table in [table for table in FAIR + SORTS + MORE if table.many <= 128] + TREES[-3:]:
            sorts = self.sorts(table)
            desk = Desk(table)
            self.assertEqual(listing(desk), self.plainly(desk, sorts))
            seen.add(sorts)
        self.assertLessEqual({"-", "small", "firm", "star", "ring", "square, square", "equal, square"}, seen)

    def test_before_and_after_deeds(self):
        desk = Desk(bent(4, [(0, 1)]))
        first = listing(desk)
        self.assertEqual(first, self.plainly(desk, "square, square"))
        desk.deal(3)
        second = listing(desk)
        self.assertEqual(second.splitlines()[1:4], ["deeds: deal", "dealt: 3", "pieces: square, square"])
        desk.hold(0, 2)
        desk.copy(1)
        self.assertEqual(listing(desk).splitlines()[:4], ["signs 4 columns 4 rows 16 rank 2", "deeds: deal, hold, copy",
                                                          "dealt: 2", "pieces: square, equal"])
        self.assertEqual(listing(desk), self.plainly(desk, "square, equal"))
        desk.leave([2])
        self.assertEqual(listing(desk).splitlines()[1:4], ["deeds: deal, hold, copy, leave", "dealt: none", "pieces: -"])
        self.assertEqual([desk.back(), desk.back(), desk.back()], ["leave", "copy", "hold"])
        self.assertEqual(listing(desk), second)
        desk.back()
        self.assertEqual(listing(desk), first)

    def test_in_a_trial(self):
        desk = Desk(ring(GROUPS["3"], 4))
        desk.deal(0)
        before = listing(desk)
        with Trial(desk) as held:
            held.move((3, 2, 1, 0))
            self.assertEqual(listing(held).splitlines()[1:4], ["deeds: deal, move", "dealt: 3", "pieces: star"])
        self.assertEqual(listing(desk), before)

    def test_some(self):
        self.assertEqual(listing(Desk(Table(2, [(1,)]))), "signs 2 columns 1 rows 1 rank 0\ndeeds: none\ndealt: none\n"
                                                          "pieces: small\n 1")
        self.assertEqual(listing(Desk(Table(36, [(35, 4)]))), "signs 36 columns 2 rows 1 rank 0\ndeeds: none\n"
                                                              "dealt: none\npieces: -\n35  4")
        eleven = Desk(Table.parity(11, 2))
        self.assertEqual(listing(eleven).splitlines()[3:6], ["pieces: small", " 0  0", " 1 10"])
        self.assertEqual(len(listing(Desk(four_points(GROUPS["2"]))).splitlines()), 12)
        self.assertEqual(listing(Desk(FIVE)).splitlines()[3], "pieces: square")
        self.assertFalse(listing(Desk(BENT)).endswith("\n"))


if __name__ == "__main__":
    unittest.main()
