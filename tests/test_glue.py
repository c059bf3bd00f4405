"""Glue: [93] to [95], what [103] says of spectra, and the section toldorfree/glue.py."""

import random
import unittest

from tests.asking import Asking
from tests.samples import (BENT, FAIR, FIVE, FOUR, GROUPS, KLEIN, NO_INTEGERS, NO_LISTS, SORTS, UNFAIR, all_lots, bent,
                           drawn, glue_plainly, line, plain_rank, ring, shuffled, square_of)
from toldorfree.cuts import class_column, is_split, splits_of
from toldorfree.errors import BadNames, BadNumber, Loose, NotCut, NotFair, NotSplit, NotWhole, OtherSigns, TooMany
from toldorfree.fairness import is_fair, told_by
from toldorfree.glue import glued, unglued
from toldorfree.matching import equal_up_to_names
from toldorfree.meeting import meets
from toldorfree.naming import Renaming, renamed
from toldorfree.ranks import Ranks, hangs_together
from toldorfree.spectra import spectrum
from toldorfree.tables import Table
from toldorfree.trees import tree_of

FIVES = (FIVE, Table.parity(5, 3), Table.parity(5, 2), line(5, 4), FIVE.with_copy(0) + Table(5, [(1,)]))
FOURS = (square_of(FOUR), shuffled(square_of(KLEIN), 1), BENT, Table.parity(4, 2).with_copy(1),
         (Table.parity(4, 2) + Table.parity(4, 3)).moved((2, 0, 3, 1, 4)))
TWOS = (Table.parity(2, 3), Table.parity(2, 5), Table.parity(2, 2) + Table(2, [(1, 0)]), Table.parity(2, 3).with_copy(0))


def tight(table):
    """The columns that are not fixed and are told by the others."""
    return [column for column in range(table.columns) if len({row[column] for row in table}) > 1
            and column in told_by(table, [other for other in range(table.columns) if other != column])]


def pairs(seed):
    """Pairs of tables and columns that can be glued, with names."""
    chance = random.Random(seed)
    for tables in (FIVES, FOURS, TWOS):
        for one in tables:
            for other in tables:
                column, second = chance.choice(tight(one)), chance.choice(tight(other))
                if one.columns + other.columns <= 10 and len(one) * len(other) // one.signs <= 300:
                    yield one, column, other, second, chance.sample(range(one.signs), one.signs)


def counts_from(table, row, column):
    """How many rows are unlike row at exactly k other columns: alike at the column, and unlike there."""
    alike, unlike = [0] * table.columns, [0] * table.columns
    for other in table:
        far = sum(x != y for place, (x, y) in enumerate(zip(row, other)) if place != column)
        (alike if row[column] == other[column] else unlike)[far] += 1
    return alike, unlike


class GluedTest(Asking):
    def test_rows(self):
        many = 0
        for one, column, other, second, names in pairs(1):
            wanted = glue_plainly(one, column, other, second, names)
            self.assertEqual(glued(one, column, other, second, names=names), wanted)
            self.assertEqual(glued(one, column, other, second, names=tuple(names)), wanted)
            same = glue_plainly(one, column, other, second, range(one.signs))
            self.assertEqual(glued(one, column, other, second), same)
            self.assertEqual(glued(one, column, other, second, names=None), same)
            many += wanted != same
        self.assertGreater(many, 20)

    def test_names_lead_from_the_first_to_the_second(self):
        one, other = Table(3, [(x, x) for x in range(3)]), Table(3, [(x, (x + 1) % 3) for x in range(3)])
        self.assertEqual(glued(one, 0, other, 0, names=[1, 2, 0]).rows, ((0, 2), (1, 0), (2, 1)))
        self.assertEqual(glued(one, 1, other, 1, names=(0, 1, 2)).rows, ((0, 2), (1, 0), (2, 1)))

    def test_what_a_glue_is(self):
        for one, column, other, second, names in pairs(2):
            table = glued(one, column, other, second, names=names)
            ranks, first, late = Ranks(table), Ranks(one), Ranks(other)
            self.assertTrue(is_fair(table))
            self.assertEqual(ranks.total, first.total + late.total - 1)
            left = [place for place in range(one.columns) if place != column]
            right = [place for place in range(other.columns) if place != second]
            for lot in all_lots(table.columns)[::3]:
                here = [left[place] for place in lot if place < len(left)]
                there = [right[place - len(left)] for place in lot if place >= len(left)]
                both = column in first.told(here) and second in late.told(there)
                self.assertEqual(ranks.rank(lot), first.rank(here) + late.rank(there) - both)
            sides = tuple(range(len(left))), tuple(range(len(left), table.columns))
            self.assertIs(meets(table, *sides), True)
            whole = hangs_together(one) and hangs_together(other)
            self.assertIs(hangs_together(table), whole)
            if whole and min(len(side) for side in sides) >= 2:
                self.assertIs(is_split(table, sides[0]), True)
                self.assertIs(is_split(table, sides[1]), True)

    def test_spectrum_of_a_glue(self):
        for one, column, other, second, names in pairs(3):
            table = glued(one, column, other, second, names=names)
            found = {str(counts_from(one, row, column)) for row in one.rows[::5]}
            self.assertEqual(len(found), 1)
            (u, v), (w, x) = counts_from(one, one[1], column), counts_from(other, other[0], second)
            wanted = [0] * (table.columns + 1)
            for k in range(len(u)):
                for more in range(len(w)):
                    self.assertEqual(v[k] * x[more] % (one.signs - 1), 0)
                    if k + more <= table.columns:
                        wanted[k + more] += u[k] * w[more] + v[k] * x[more] // (one.signs - 1)
            self.assertEqual(spectrum(table, table[len(table) // 2]), tuple(wanted))

    def test_glue_of_rings_of_sums(self):
        self.assertEqual(glued(Table.parity(2, 3), 2, Table.parity(2, 3), 0), Table.parity(2, 4))
        self.assertEqual(glued(Table.parity(2, 2), 0, Table.parity(2, 2), 1), Table.parity(2, 2))
        self.assertEqual(glued(Table.parity(3, 4), 0, Table.parity(3, 4), 3, names=[0, 2, 1]), Table.parity(3, 6))

    def test_limits(self):
        five = Table.parity(2, 5)
        self.assertEqual(glued(five, 0, five, 0), Table.parity(2, 8))
        self.wrong(BadNumber, "name", "columns", glued, five, 0, Table.parity(2, 6), 0)
        self.wrong(BadNumber, "name", "columns", glued, Table.parity(2, 8), 7, Table.parity(2, 3), 0)
        self.assertEqual(glued(Table.parity(2, 8), 7, Table.parity(2, 2), 0), Table.parity(2, 8))
        eleven = Table.parity(11, 3)
        self.wrong(TooMany, "limit", 1300, glued, eleven, 0, eleven, 0)
        self.assertEqual(len(glued(Table.parity(10, 3), 0, Table.parity(10, 3), 0)), 1000)
        self.wrong(TooMany, "limit", 1300, glued, Table.parity(6, 4), 0, Table.parity(6, 4), 0)
        self.assertEqual(len(glued(Table.parity(6, 4), 0, Table.parity(6, 3), 0)), 1296)
        # too many columns and too many rows
        self.wrong(BadNumber, "name", "columns", glued, Table.parity(4, 5), 0, Table.parity(4, 6), 0)

    def test_wrong(self):
        bad, good, other = UNFAIR[3], Table.parity(2, 3), Table.parity(3, 3)
        for column in NO_INTEGERS + (-1, 3):
            self.wrong(BadNumber, "name", "column", glued, bad, column, good, 9, names=7)
            self.wrong(BadNumber, "name", "second", glued, bad, 0, good, column, names=7)
        for names in [value for value in NO_LISTS if value is not None] + [(), (0,), [0, 0], (0, 2), (0, 1, 2),
                                                                           (False, 1), (0, "1"), [1.0, 0]]:
            self.wrong(BadNames, "column", -1, glued, bad, 0, other, 0, names=names)
        self.wrong(OtherSigns, "signs", 3, glued, bad, 0, other, 0, names=[1, 0])
        self.wrong(OtherSigns, "signs", 2, glued, other, 0, bad, 0)
        full = Table.full(2, 2)
        self.wrong(NotFair, "lot", (0, 2), glued, bad, 0, full, 0)
        self.wrong(NotFair, "lot", (0, 2), glued, full, 0, bad, 0)
        moved = bad.moved((0, 2, 1))
        self.wrong(NotFair, "lot", (0, 2), glued, bad, 0, moved, 0)
        self.wrong(NotFair, "lot", (0, 1), glued, moved, 0, bad, 0)

    def test_loose_columns(self):
        full, good = Table.full(2, 8), Table.parity(2, 3)
        fixed = Table.parity(2, 2) + Table(2, [(1,)])
        self.wrong(Loose, "column", 6, glued, full, 6, full, 5)
        self.wrong(Loose, "column", 5, glued, good, 0, full, 5)
        self.wrong(Loose, "column", 2, glued, fixed, 2, good, 0)
        self.wrong(Loose, "column", 2, glued, good, 0, fixed, 2)
        self.wrong(Loose, "column", 0, glued, Table.full(3, 1), 0, Table(3, [(1,)]), 0)
        self.wrong(Loose, "column", 0, glued, Table(3, [(1,)]), 0, Table.full(3, 1), 0)
        self.wrong(Loose, "column", 3, glued, good + Table.full(2, 1), 3, good, 0)
        self.assertEqual(glued(fixed, 1, good, 0).rows, glue_plainly(fixed, 1, good, 0, (0, 1)).rows)


class UngluedTest(Asking):
    def test_unglued(self):
        many = 0
        for table in FAIR + SORTS + (glue_plainly(BENT, 1, square_of(FOUR), 2, drawn(4, 1)), bent(5, [(0, 1)])):
            if hangs_together(table) and table.many <= 128:
                for lot in splits_of(table)[:12]:
                    rest = tuple(column for column in range(table.columns) if column not in lot)
                    self.check_unglued(table, lot, rest)
                    self.check_unglued(table, rest, lot)
                    many += 1
        self.assertGreater(many, 25)

    def check_unglued(self, table, lot, rest):
        numbers = class_column(table, lot)
        found = unglued(table, list(lot[::-1]))
        self.assertIsInstance(found, tuple)
        one, other = found
        for part, side in ((one, lot), (other, rest)):
            rows = {tuple(row[column] for column in side) + (number,) for row, number in zip(table, numbers)}
            self.assertEqual((part.signs, set(part.rows)), (table.signs, rows))
            self.assertTrue(is_fair(part) and hangs_together(part))
        self.assertEqual(glued(one, len(lot), other, len(rest)), table.moved(lot + rest))

    def test_glue_undone(self):
        for one, column, other, second, names in pairs(4):
            if hangs_together(one) and hangs_together(other) and one.columns >= 3 and other.columns >= 3:
                table = glued(one, column, other, second, names=names)
                side = tuple(range(one.columns - 1))
                again = unglued(table, side)
                left = [place for place in range(one.columns) if place != column] + [column]
                right = [place for place in range(other.columns) if place != second] + [second]
                # the parts come back up to the names of the last column
                for part, before in ((again[0], one.moved(left)), (again[1], other.moved(right))):
                    last = dict(sorted({(row[-1], old[-1]) for row in part for old in before if row[:-1] == old[:-1]}))
                    self.assertEqual(sorted(last.values()), list(range(table.signs)))
                    same = [list(range(table.signs))] * (part.columns - 1)
                    back = Renaming(same + [[last[sign] for sign in range(table.signs)]])
                    self.assertEqual(renamed(part, back), before)
                    self.assertTrue(equal_up_to_names(part, before))

    def test_sides(self):
        table = bent(4, [(0, 1)])
        one, other = unglued(table, (3, 2))
        self.assertEqual((one.part_table((0, 1)), other.part_table((0, 1))),
                         (table.part_table((2, 3)), table.part_table((0, 1))))
        self.assertEqual([plain_rank(one, (2,)), one.columns, other.columns], [1, 3, 3])

    def test_wrong(self):
        bad = UNFAIR[-1]
        self.wrong_lots(6, lambda lot: unglued(bad, lot))
        self.wrong(NotFair, "lot", (3, 4), unglued, bad, ())
        self.wrong(NotWhole, "lot", (0, 1, 2), unglued, Table.parity(2, 3) + Table.parity(2, 3), (5,))
        self.wrong(NotWhole, "lot", (0,), unglued, Table.full(2, 4), (0, 1))
        for lot in ((), [2], [3, 1, 0], (3, 0, 2, 1)):
            self.wrong(NotCut, "lot", tuple(sorted(lot)), unglued, BENT, lot)
        for lot in ([1, 0], (3, 2)):
            self.wrong(NotSplit, "lot", tuple(sorted(lot)), unglued, BENT, lot)
        self.wrong(NotSplit, "lot", (0, 2), unglued, ring(GROUPS["turns"], 4), (2, 0))
        self.assertEqual(len(unglued(ring(GROUPS["turns"], 4), (0, 1))), 2)

    def test_example(self):
        square = Table.parity(2, 3)
        table = glued(square, 2, square, 0)
        self.assertEqual([table == Table.parity(2, 4), tree_of(table).sorts(), tree_of(table).splits()],
                         [True, ("star",), ((0, 1), (0, 2), (0, 3))])


if __name__ == "__main__":
    unittest.main()
