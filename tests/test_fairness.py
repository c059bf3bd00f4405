"""Told or free, and fair tables: [4], [9], [10] and the section toldorfree/fairness.py."""

import unittest

from tests.asking import Asking
from tests.samples import (FAIR, NO_INTEGERS, UNFAIR, all_lots, every_table, parts, plain_circuits, plain_fair,
                           plain_free, plain_full, plain_latin, plain_power, plain_tells, smaller)
from toldorfree.errors import BadLot, BadNumber
from toldorfree.fairness import is_fair, is_full, is_latin, leaves_free, power_of, sees, told_by, tells
from toldorfree.tables import Table

SMALL = every_table(2, 1) + every_table(2, 2) + every_table(2, 3) + every_table(3, 1) + every_table(3, 2)
SOME = SMALL[::7] + [table for table in FAIR + UNFAIR if table.columns <= 4 and table.many <= 36]


class FairnessTest(Asking):
    def test_sees(self):
        for table in SOME:
            for lot in all_lots(table.columns):
                for column in range(table.columns):
                    told = plain_tells(table, lot, column)
                    free = plain_free(table, lot, column)
                    self.assertFalse(told and free)
                    self.assertIs(tells(table, lot, column), told)
                    self.assertIs(leaves_free(table, lot, column), free)
                    self.assertEqual(sees(table, lot, column), "tells" if told else "free" if free else "neither")

    def test_told_by(self):
        for table in SOME:
            for lot in all_lots(table.columns):
                told = tuple(column for column in range(table.columns) if plain_tells(table, lot, column))
                self.assertEqual(told_by(table, tuple(reversed(lot))), told)
                self.assertIsInstance(told_by(table, list(lot)), tuple)

    def test_is_full(self):
        for table in SOME:
            for lot in all_lots(table.columns):
                self.assertIs(is_full(table, lot[::-1]), plain_full(table, lot))

    def test_is_fair(self):
        for table in SMALL:
            self.assertIs(is_fair(table), plain_fair(table))
        for table in FAIR:
            self.assertIs(is_fair(table), True)
        for table in UNFAIR:
            self.assertIs(is_fair(table), False)
        for table in [table for table in FAIR + UNFAIR if table.columns <= 4 and table.many <= 27]:
            self.assertEqual(is_fair(table), plain_fair(table))

    def test_is_latin(self):
        for table in SMALL + list(FAIR + UNFAIR):
            self.assertIs(is_latin(table), plain_latin(table))
        self.assertTrue(is_latin(Table(3, [(2,)])))
        self.assertFalse(is_latin(Table.full(2, 1)))
        self.assertTrue(is_latin(Table.parity(36, 3)))

    def test_three_ways(self):
        for table in SMALL + list(UNFAIR):
            powers = all(plain_power(len(parts(table, lot)), table.signs) for lot in all_lots(table.columns))
            cubes = all(len(parts(table, lot)) == table.signs ** (len(lot) - 1) for lot in plain_circuits(table))
            latin = all(plain_latin(table.part_table(lot)) for lot in plain_circuits(table))
            self.assertEqual([powers, cubes, latin], [is_fair(table)] * 3)

    def test_larger_lots(self):
        for table in SOME:
            for lot in all_lots(table.columns):
                told = told_by(table, lot)
                self.assertEqual(told_by(table, told), told)
                for part in smaller(lot):
                    self.assertLessEqual(set(told_by(table, part)), set(told))
                    self.assertTrue(is_full(table, part) or not is_full(table, lot))
                    for column in range(table.columns):
                        if leaves_free(table, lot, column):
                            self.assertTrue(leaves_free(table, part, column))

    def test_own_columns_and_the_empty_lot(self):
        table = Table(3, [(0, 0, 1), (1, 0, 2)])
        self.assertEqual([sees(table, (), column) for column in range(3)], ["neither", "tells", "neither"])
        self.assertEqual(sees(table, (2, 0), 0), "tells")
        self.assertEqual(sees(Table.full(36, 1), (), 0), "free")
        self.assertEqual(told_by(table, (0, 1, 2)), (0, 1, 2))
        self.assertTrue(is_full(table, ()))

    def test_wrong_arguments(self):
        table = UNFAIR[0]
        for call in (sees, tells, leaves_free):
            self.wrong_lots(2, lambda lot: call(table, lot, 5))
            for column in NO_INTEGERS + (-1, 2):
                self.wrong(BadNumber, "name", "column", call, table, (0,), column)
                self.wrong(BadLot, "place", 0, call, table, (2,), column)
        for call in (told_by, is_full):
            self.wrong_lots(2, lambda lot: call(table, lot))

    def test_power_of(self):
        for base in (2, 3, 7, 36, 10 ** 20):
            for exponent in range(12):
                self.assertEqual(power_of(base ** exponent, base), exponent)
                self.assertIsNone(power_of(base ** exponent + 1, base) if (base, exponent) != (2, 0) else None)
                self.assertIsNone(power_of(-base ** exponent, base))
        self.assertEqual(power_of(2, 2), 1)
        self.assertEqual(power_of(1, 5), 0)
        self.assertEqual(power_of(3 ** 1000, 3), 1000)
        for number in (0, -1, -8, 6, 12, 3 ** 1000 + 3):
            self.assertIsNone(power_of(number, 2))

    def test_power_of_refuses(self):
        for number in NO_INTEGERS:
            self.wrong(BadNumber, "name", "number", power_of, number, "x")
        for base in NO_INTEGERS + (1, 0, -2):
            self.wrong(BadNumber, "name", "base", power_of, -4, base)

    def test_example(self):
        table = Table.parity(2, 3)
        self.assertEqual([sees(table, (0,), 2), sees(table, (0, 1), 2), told_by(table, (1, 2))],
                         ["free", "tells", (0, 1, 2)])


if __name__ == "__main__":
    unittest.main()
