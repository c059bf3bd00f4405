"""Held and short parts: [46], [47], what [102] says of held tables, and the section toldorfree/holding.py."""

import unittest
from itertools import permutations

from tests.asking import Asking
from tests.samples import (BENT, FAIR, FIVE, FOUR, KLEIN, NO_INTEGERS, NO_LISTS, SORTS, UNFAIR, all_lots, four_points,
                           parts, plain_meet, plain_rank, ring, shuffled)
from toldorfree.cuts import splits_of
from toldorfree.errors import BadLot, BadNumber, NoRow
from toldorfree.fairness import is_fair
from toldorfree.holding import held, short_part, stacked_parts
from toldorfree.matching import equal_up_to_names
from toldorfree.meeting import meets
from toldorfree.ranks import Ranks
from toldorfree.rebuilding import rows_fitting
from toldorfree.tables import Table

SMALL = [table for table in FAIR + SORTS + UNFAIR if table.many <= 64]


def plain_short(table, lot, part):
    rest = [column for column in range(table.columns) if column not in lot]
    return Table(table.signs, [tuple(row[column] for column in rest) for row in table
                               if all(row[column] == sign for column, sign in zip(sorted(lot), part))])


def renumbered(lot, gone):
    """The numbers that the columns of lot have when those of gone are left out."""
    return tuple(column - sum(other < column for other in gone) for column in lot if column not in gone)


class HoldingTest(Asking):
    def test_held(self):
        for table in SMALL:
            for column in range(table.columns if table.columns > 1 else 0):
                for (sign,) in sorted(parts(table, (column,)))[:3]:
                    self.assertEqual(held(table, column, sign), plain_short(table, (column,), (sign,)))

    def test_short_parts(self):
        for table in SMALL:
            for lot in all_lots(table.columns)[:-1][::5]:
                for part in sorted(parts(table, lot))[::7]:
                    wanted = plain_short(table, lot, part)
                    self.assertEqual(short_part(table, lot[::-1], list(part)), wanted)
            self.assertEqual(short_part(table, [], ()), table)
            self.assertEqual(short_part(table, (), []), table)

    def test_one_after_another_in_any_order(self):
        for table in (Table.parity(2, 5), BENT, UNFAIR[5], FIVE, UNFAIR[-1], SORTS[-2]):
            row = table.rows[-1]
            for order in permutations(range(table.columns), 2):
                found, columns = table, list(range(table.columns))
                for column in order:
                    found = held(found, columns.index(column), row[column])
                    columns.remove(column)
                self.assertEqual(found, short_part(table, order, [row[column] for column in sorted(order)]))

    def test_leaving_out_and_holding_in_either_order(self):
        for table in (Table.parity(3, 4), BENT, UNFAIR[4], SORTS[-3], four_points(FOUR)):
            row = table.rows[len(table) // 2]
            for lot in [lot for lot in all_lots(table.columns) if lot and 0 not in lot and len(lot) < table.columns - 1]:
                part = [row[0]]
                first = short_part(table - lot, (0,), part)
                self.assertEqual(first, short_part(table, (0,), part) - [column - 1 for column in lot])

    def test_short_parts_of_a_fair_table(self):
        for table in [table for table in FAIR + SORTS if table.many <= 64 and table.columns <= 6]:
            for lot in all_lots(table.columns)[:-1][::3]:
                shapes = []
                for part in sorted(parts(table, lot))[::3]:
                    found = short_part(table, lot, part)
                    self.assertTrue(is_fair(found))
                    shapes.append(Ranks(found))
                for ranks in shapes:
                    self.assertTrue(ranks == shapes[0])
                    for other in [other for other in all_lots(table.columns) if not set(other) & set(lot)]:
                        both = tuple(sorted(lot + other))
                        self.assertEqual(ranks.rank(renumbered(other, lot)),
                                         plain_rank(table, both) - plain_rank(table, lot))

    def test_short_parts_need_not_be_equal_up_to_names(self):
        zero, two = held(BENT, 2, 0), held(BENT, 2, 2)
        self.assertTrue(Ranks(zero) == Ranks(two))
        self.assertFalse(equal_up_to_names(zero, two))
        self.assertTrue(equal_up_to_names(zero, held(BENT, 2, 1)))

    def test_columns_left_out(self):
        for table in SORTS[::3]:
            ranks = Ranks(table)
            for lot in all_lots(table.columns)[:-1][::4]:
                found = table - lot
                self.assertTrue(is_fair(found))
                for other in [other for other in all_lots(table.columns) if not set(other) & set(lot)]:
                    self.assertEqual(Ranks(found).rank(renumbered(other, lot)), ranks.rank(other))

    def test_stacked_parts(self):
        for table in SMALL:
            for column in range(table.columns):
                if table.columns > 1 and len(parts(table, (column,))) == table.signs:
                    self.assertEqual(stacked_parts(table, column),
                                     tuple(held(table, column, sign) for sign in range(table.signs)))
                    self.is_tuples(stacked_parts(table, column))

    def test_splits_left_in_smaller_tables(self):
        for table in (ring(FOUR, 4), ring(KLEIN, 4), Table.parity(2, 6), SORTS[3]):
            for split in splits_of(table):
                rest = tuple(column for column in range(table.columns) if column not in split)
                for side, other in ((split, rest), (rest, split)):
                    gone = side[0]
                    smaller = [table - (gone,)] + [held(table, gone, sign) for (sign,) in table.part_rows((gone,))]
                    for found in smaller:
                        one, two = renumbered(side, (gone,)), renumbered(other, (gone,))
                        self.assertTrue(meets(found, one, two))
                        self.assertIn(plain_meet(found, one, two), (0, 1))

    def test_tables_held_at_a_column_behind_a_split(self):
        for number, table in enumerate((ring(FOUR, 4), SORTS[3], SORTS[4], SORTS[2], shuffled(ring(FOUR, 4), 9))):
            self.assertIn((0, 1), splits_of(table))
            layers = [held(table, 3, sign) for sign in range(table.signs)]
            for one in layers[:2]:
                for other in layers:
                    # a renaming that changes the last column alone: each last sign goes with one other sign
                    pairs = {(a[2], b[2]) for a, b in zip(one.rows, other.rows)}
                    self.assertEqual([a[:2] for a in one], [b[:2] for b in other])
                    self.assertEqual(len(pairs), table.signs, number)

    def test_wrong(self):
        table = Table(3, [(0, 1), (1, 1), (2, 2)])
        for column in NO_INTEGERS + (-1, 2, 99):
            self.wrong(BadNumber, "name", "column", held, table, column, 9)
            self.wrong(BadNumber, "name", "column", stacked_parts, table, column)
        for sign in NO_INTEGERS + (-1, 0, 3):
            self.wrong(BadNumber, "name", "sign", held, table, 1, sign)
        self.wrong(BadNumber, "name", "sign", stacked_parts, table, 1)
        one = Table(2, [(1,)])
        self.wrong(BadNumber, "name", "sign", held, one, 0, 0)
        self.wrong(BadNumber, "name", "sign", held, one, 0, True)
        self.wrong(BadNumber, "name", "columns", held, one, 0, 1)
        self.wrong(BadNumber, "name", "sign", stacked_parts, one, 0)
        self.wrong(BadNumber, "name", "columns", stacked_parts, Table.full(2, 1), 0)
        self.assertEqual(stacked_parts(table, 0), (Table(3, [(1,)]), Table(3, [(1,)]), Table(3, [(2,)])))

    def test_wrong_short_parts(self):
        table = Table(3, [(0, 1, 0), (1, 1, 0), (2, 2, 0)])
        self.wrong_lots(3, lambda lot: short_part(table, lot, None))
        for lot in ((0, 1, 2), [2, 0, 1]):
            self.wrong(BadLot, "place", -1, short_part, table, lot, None)
        for part in NO_LISTS + ((), (0,), (0, 2), [0, 1, 0], (True, 1), (1, True), (1.0, 1), (0, 3), (-1, 1), ("0", 1)):
            self.wrong(NoRow, "row", part, short_part, table, (0, 1), part)
        for part in NO_LISTS + ((0,), [0], ""):
            self.wrong(NoRow, "row", part, short_part, table, (), part)
        self.assertEqual(short_part(table, (1, 0), [1, 1]).rows, ((0,),))

    def test_example(self):
        table = Table.parity(3, 3)
        self.assertEqual([held(table, 0, 1).rows, short_part(table, (2, 1), [0, 2]).rows],
                         [((0, 2), (1, 1), (2, 0)), ((1,),)])

    def test_a_held_table_is_made_of_fitting_rows(self):
        # the rows with a sign are those that fit a part table of one row
        fitting = rows_fitting(4, 4, [((0, 1, 2, 3), BENT), ((1,), Table(4, [(3,)]))])
        self.assertEqual(held(BENT, 1, 3).rows, tuple(sorted(row[:1] + row[2:] for row in fitting)))


if __name__ == "__main__":
    unittest.main()
