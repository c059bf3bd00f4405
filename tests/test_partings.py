"""Partings: [76] to [78] and the section toldorfree/partings.py."""

import random
import unittest
from itertools import permutations, product

from tests.asking import Asking
from tests.samples import BENT, FAIR, FIVE, NO_INTEGERS, NO_LISTS, SORTS, UNFAIR, all_lots, plain_told, smaller
from toldorfree.errors import BadNumber, BadParting, NotFair
from toldorfree.partings import column_parting, least_lots, numbered, put_in, tells_parting
from toldorfree.ranks import Ranks
from toldorfree.tables import Table

SMALL = [table for table in FAIR + SORTS if table.many <= 64 and table.columns <= 6]


def some_partings(table, seed):
    """A constant parting, a column, a column with two signs made one, and drawn ones."""
    chance = random.Random(seed)
    column = [row[-1] for row in table]
    return ([table.signs - 1] * len(table), column, [min(sign, 1) for sign in column],
            [chance.randrange(table.signs) for _ in table], [chance.randrange(2) for _ in table])


class NumberedTest(Asking):
    def test_numbered(self):
        self.assertEqual(numbered((7, -1, 7, 0)), (0, 1, 0, 2))
        self.assertEqual(numbered([]), ())
        self.assertEqual(numbered(()), ())
        self.assertEqual(numbered([3]), (0,))
        self.assertEqual(numbered([10 ** 50, -10 ** 50, 10 ** 50, 1, 0, -1]), (0, 1, 0, 2, 3, 4))
        for marks in product((4, 5, -6), repeat=4):
            found = numbered(list(marks))
            firsts = [found.index(number) for number in range(len(set(marks)))]
            self.assertEqual(firsts, sorted(firsts))
            for place, mark in enumerate(marks):
                self.assertEqual([found[place] == number for number in found], [mark == other for other in marks])
            self.assertEqual(numbered(found), found)

    def test_equal_up_to_names(self):
        parting = (2, 2, 0, 1, 0, 2)
        for names in permutations(range(3)):
            self.assertEqual(numbered([names[sign] for sign in parting]), (0, 0, 1, 2, 1, 0))
        self.assertNotEqual(numbered((0, 1, 1)), numbered((0, 1, 0)))

    def test_wrong(self):
        for parting in NO_LISTS:
            self.wrong(BadParting, "place", -1, numbered, parting)
        for value in NO_INTEGERS:
            self.wrong(BadParting, "place", 0, numbered, [value, None])
            self.wrong(BadParting, "place", 3, numbered, (5, -5, 5, value, value))


class PutInTest(Asking):
    def test_put_in(self):
        for seed, table in enumerate(FAIR + SORTS + UNFAIR):
            if table.columns < 8:
                for parting in some_partings(table, seed):
                    found = put_in(table, parting)
                    self.assertEqual(found.rows, tuple(row + (sign,) for row, sign in zip(table, parting)))
                    self.assertEqual((found.signs, found.columns), (table.signs, table.columns + 1))
                    self.assertEqual(found, put_in(table, tuple(parting)))
                    self.assertEqual(column_parting(found, table.columns), tuple(parting))

    def test_column_parting(self):
        table = Table(3, [(2, 0), (0, 1), (2, 1)])
        self.assertEqual([column_parting(table, 0), column_parting(table, 1)], [(0, 2, 2), (1, 0, 1)])
        for column in NO_INTEGERS + (-1, 2):
            self.wrong(BadNumber, "name", "column", column_parting, table, column)

    def test_eight_columns(self):
        table = Table.parity(2, 8)
        self.wrong(BadParting, "place", -1, put_in, table, [0])
        self.wrong(BadParting, "place", 127, put_in, table, [0] * 127 + [2])
        self.wrong(BadNumber, "name", "columns", put_in, table, [0] * 128)
        self.assertEqual(put_in(Table.full(2, 7), [0] * 128).columns, 8)

    def test_lists_that_change(self):
        parting = [0, 1]
        table = put_in(Table.full(2, 1), parting)
        parting[0] = 1
        self.assertEqual(table.rows, ((0, 0), (1, 1)))

    def test_wrong_partings(self):
        bad = UNFAIR[3]
        for call in (put_in, lambda table, parting: tells_parting(table, (0,), parting), least_lots):
            for parting in NO_LISTS + ((), [0] * 3, (0,) * 5, "0000"):
                self.wrong(BadParting, "place", -1, call, bad, parting)
            for value in NO_INTEGERS + (-1, 2, 99):
                self.wrong(BadParting, "place", 0, call, bad, [value, None, 0, 0])
                self.wrong(BadParting, "place", 2, call, bad, (1, 0, value, value))

    def test_example(self):
        table = Table.full(3, 1)
        self.assertEqual([numbered((7, -1, 7, 0)), put_in(table, [2, 0, 1]).rows, least_lots(table, (1, 1, 1))],
                         [(0, 1, 0, 2), ((0, 2), (1, 0), (2, 1)), ((),)])


class TellingTest(Asking):
    def test_telling(self):
        for seed, table in enumerate([table for table in SMALL if table.many <= 27] + list(UNFAIR)):
            for parting in some_partings(table, seed):
                for lot in all_lots(table.columns)[::3]:
                    self.assertIs(tells_parting(table, lot[::-1], parting), plain_told(table, lot, parting))

    def test_what_tells(self):
        for seed, table in enumerate(SMALL):
            ranks, whole = Ranks(table), tuple(range(table.columns))
            for parting in some_partings(table, seed + 100):
                self.assertIs(tells_parting(table, whole, parting), True)
                for lot in all_lots(table.columns)[::4]:
                    told = tells_parting(table, lot, parting)
                    self.assertIs(tells_parting(table, ranks.told(lot), parting), told)
                    if told:
                        self.assertIs(tells_parting(table, sorted(set(lot) | {0}), parting), True)
                    if len(set(parting)) == 1:
                        self.assertIs(told, True)

    def test_columns_are_told_as_they_are(self):
        for table in SMALL:
            for column in range(table.columns):
                for lot in all_lots(table.columns)[::5]:
                    self.assertIs(tells_parting(table, lot, column_parting(table, column)),
                                  column in Ranks(table).told(lot))

    def test_least_lots(self):
        for seed, table in enumerate(SMALL):
            for parting in some_partings(table, seed):
                telling = [lot for lot in all_lots(table.columns) if tells_parting(table, lot, parting)]
                wanted = [lot for lot in telling if not any(part in telling for part in smaller(lot))]
                self.assertEqual(least_lots(table, parting), tuple(wanted))
                self.is_tuples(least_lots(table, parting))

    def test_least_lots_of_some(self):
        table = Table.parity(2, 3)
        self.assertEqual(least_lots(table, [0, 0, 1, 1]), ((0,), (1, 2)))
        self.assertEqual(least_lots(table, [0, 0, 0, 1]), ((0, 1), (0, 2), (1, 2)))
        self.assertEqual(least_lots(Table.full(2, 2), [0, 1, 1, 0]), ((0, 1),))
        self.assertEqual(least_lots(FIVE, [3] * 25), ((),))
        self.assertEqual(least_lots(Table(3, [(0, 1)]), (2,)), ((),))
        self.assertEqual(least_lots(BENT, [row[3] // 2 for row in BENT]), ((3,), (0, 1, 2)))

    def test_wrong(self):
        bad = UNFAIR[3]
        self.wrong_lots(3, lambda lot: tells_parting(bad, lot, None))
        self.wrong(NotFair, "lot", (0, 2), least_lots, bad, (0, 0, 0, 0))
        self.assertIs(tells_parting(bad, (), [0, 0, 0, 0]), True)


if __name__ == "__main__":
    unittest.main()
