"""Stacks: [48], what [102] says of them, and the section toldorfree/stacks.py."""

import random
import unittest
from itertools import combinations, product

from tests.asking import Asking
from tests.samples import (BENT, FAIR, FIVE, FOUR, KLEIN, NO_LISTS, SORTS, UNFAIR, all_lots, every_table, parts,
                           shuffled, square_of)
from toldorfree.circuits import circuits_of
from toldorfree.cuts import is_split
from toldorfree.errors import BadNumber, OtherColumns, OtherSigns, TooMany
from toldorfree.fairness import is_fair
from toldorfree.holding import stacked_parts
from toldorfree.ranks import Ranks
from toldorfree.stacks import mixed_lot, stack, stackable
from toldorfree.sums import cubes_of
from toldorfree.tables import Table


def plain_mixed(tables, lot):
    found = [parts(table, lot) for table in tables]
    alike = all(one == found[0] for one in found)
    apart = all(not one & other for one, other in combinations(found, 2))
    return not alike and not apart


def plain_mixed_lot(tables):
    return next((lot for lot in all_lots(tables[0].columns) if plain_mixed(tables, lot)), None)


def plain_stackable(tables):
    return (all(is_fair(table) for table in tables) and all(Ranks(table) == Ranks(tables[0]) for table in tables)
            and plain_mixed_lot(tables) is None)


class StacksTest(Asking):
    def checked(self, tables):
        self.assertEqual(mixed_lot(list(tables)), plain_mixed_lot(tables))
        self.assertIs(stackable(tuple(tables)), plain_stackable(tables))
        found = stack(*tables)
        self.assertEqual(found.rows, tuple((place,) + row for place, table in enumerate(tables) for row in table))
        self.assertIs(stackable(tables), is_fair(found))

    def test_two_signs(self):
        for tables in product(every_table(2, 2), repeat=2):
            self.checked(tables)
        for tables in product(every_table(2, 3)[::7], repeat=2):
            self.checked(tables)

    def test_three_signs(self):
        for tables in product(every_table(3, 1), repeat=3):
            self.checked(tables)
        chance = random.Random(3)
        fair = [table for table in every_table(3, 2) if is_fair(table)]
        for _ in range(150):
            self.checked([chance.choice(fair) for _ in range(3)])

    def test_a_lot_that_is_neither_tells_nor_leaves_free(self):
        one, other = Table(2, [(0, 0), (1, 1)]), Table(2, [(0, 0), (0, 1)])
        self.assertEqual(mixed_lot([one, other]), (0,))
        self.assertEqual(mixed_lot([Table(2, [(0, 0), (1, 1)]), Table(2, [(0, 0), (1, 0)])]), (1,))
        self.assertEqual(mixed_lot((Table(2, [(0, 0)]), Table(2, [(1, 0), (0, 1)]))), (0,))
        self.assertEqual(mixed_lot((Table.parity(2, 2), Table.full(2, 2))), (0, 1))
        self.assertIsNone(mixed_lot((Table.full(2, 2), Table.full(2, 2))))
        # three sets of which two are equal, or only two have a common part-row
        self.assertEqual(mixed_lot([Table(3, [(0,)]), Table(3, [(0,)]), Table(3, [(1,)])]), (0,))
        self.assertIsNone(mixed_lot([Table(3, [(0,)]), Table(3, [(2,)]), Table(3, [(1,)])]))
        self.assertIs(stackable([Table(3, [(0,)]), Table(3, [(2,)]), Table(3, [(1,)])]), True)

    def test_not_fair_or_of_two_shapes(self):
        bad = UNFAIR[0]
        self.assertIsNone(mixed_lot([bad, bad]))
        self.assertIs(stackable([bad, bad]), False)
        one, other = Table(2, [(0, 0), (1, 0)]), Table(2, [(0, 1), (1, 1)])
        self.assertIs(stackable([one, other]), True)
        self.assertIs(stackable([Table(2, [(0,)]), Table.full(2, 1)]), False)

    def test_parts_of_a_column_are_stacked_again(self):
        for table in FAIR + SORTS + UNFAIR:
            if table.columns > 1 and len(table.part_rows((0,))) == table.signs:
                layers = stacked_parts(table, 0)
                self.assertEqual(stack(*layers), table)
                if is_fair(table):
                    self.assertIs(stackable(layers), True)

    def test_squares_stacked(self):
        for signs in (2, 3):
            for tables in product(cubes_of(signs, 3), repeat=signs):
                found = stack(*tables)
                apart = len(found) == len({row for table in tables for row in table})
                ring = is_fair(found) and (0, 1, 2, 3) in circuits_of(found)
                self.assertIs(ring, apart)

    def test_squares_with_a_number_added(self):
        for square in (square_of(FOUR), FIVE, shuffled(square_of(KLEIN), 2), Table.parity(3, 3)):
            layers = [Table(square.signs, [row[:2] + ((row[2] + more) % square.signs,) for row in square])
                      for more in range(square.signs)]
            self.assertIs(stackable(layers), True)
            self.assertIs(is_split(stack(*layers), (0, 3)), True)

    def test_large_tables(self):
        wide = Table.parity(2, 8)
        other = Table(2, [row[:-1] + (1 - row[-1],) for row in wide])
        self.assertIs(stackable([wide, other]), True)
        self.assertEqual(mixed_lot([wide, Table.full(2, 8)]), tuple(range(8)))
        self.wrong(BadNumber, "name", "columns", stack, wide, other)
        many = Table.full(5, 4)
        self.assertIs(stackable([many] * 5), True)
        self.wrong(TooMany, "limit", 1300, stack, *[many] * 5)
        self.assertEqual(len(stack(*[Table.parity(5, 4)] * 5)), 625)
        # 1300 rows are not too many
        rows = Table.full(4, 5).rows
        layers = [Table(4, rows[:325])] * 4
        self.assertEqual(len(stack(*layers)), 1300)
        self.wrong(TooMany, "limit", 1300, stack, *layers[:3], Table(4, rows[:326]))
        self.wrong(BadNumber, "name", "columns", stack, *[Table(2, [(0,) * 8])] * 2)
        self.assertEqual(len(stack(*[Table(36, [(0, 1)])] * 36)), 36)

    def test_wrong(self):
        one, two, three = Table.full(2, 2), Table.full(2, 3), Table.full(3, 2)
        for call in (mixed_lot, stackable):
            for tables in NO_LISTS[:-1] + ((), [], [one], [one] * 3, [three] * 2, (three, one), [three, one]):
                self.wrong(BadNumber, "name", "tables", call, tables)
            self.wrong(OtherSigns, "signs", 3, call, [one, three])
            self.wrong(OtherSigns, "signs", 3, call, [two, three])
            self.wrong(OtherColumns, "columns", 3, call, (one, two))
            self.wrong(OtherSigns, "signs", 5, call, [three, Table.full(5, 1), one])
            self.wrong(OtherSigns, "signs", 2, call, [three, Table.full(3, 1), one])
            self.wrong(OtherColumns, "columns", 1, call, [three, Table.full(3, 1), Table.full(3, 3)])
        for tables in ((), (one,), (one,) * 3, (three,) * 2):
            self.wrong(BadNumber, "name", "tables", stack, *tables)
        self.wrong(OtherSigns, "signs", 2, stack, three, Table.full(3, 1), one)
        self.wrong(OtherColumns, "columns", 3, stack, one, two)
        eight = Table.full(2, 8)
        self.wrong(OtherColumns, "columns", 2, stack, eight, one)
        self.wrong(OtherColumns, "columns", 8, stack, one, eight)
        self.wrong(BadNumber, "name", "columns", stack, eight, eight)
        self.assertEqual(BENT, stack(*stacked_parts(BENT, 0)))

    def test_example(self):
        even = Table(2, [(0, 0), (1, 1)])
        odd = Table(2, [(0, 1), (1, 0)])
        self.assertEqual([stack(even, odd) == Table.parity(2, 3), stackable([even, odd]),
                          mixed_lot([even, Table(2, [(0, 0), (0, 1)])])], [True, True, (0,)])


if __name__ == "__main__":
    unittest.main()
