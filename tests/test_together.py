"""Several rows at once: [35], [36] and the section toldorfree/together.py."""

import unittest
from itertools import product

from tests.asking import Asking
from tests.samples import FAIR, NO_INTEGERS, NO_LISTS, UNFAIR, all_lots, line
from tests.test_spectra import plain_a
from toldorfree.errors import BadLot, BadNumber, NoRow, NotFair, TooMany
from toldorfree.ranks import Ranks
from toldorfree.tables import Table
from toldorfree.together import least_many, rank_tuples, tuples_just

PARITY = Table.parity(2, 3)


def plain_tuples(table, row, lot, many):
    return sum(tuple(column for column in range(table.columns) if all(other[column] == row[column] for other in rows)) == lot
               for rows in product(table.rows, repeat=many))


class TogetherTest(Asking):
    def test_tuples_just(self):
        for table in [table for table in FAIR if table.many <= 9 and table.columns <= 4]:
            for many in range(4):
                row = table.rows[many % table.many]
                for lot in all_lots(table.columns):
                    wanted = plain_tuples(table, row, lot, many)
                    self.assertEqual(tuples_just(table, row, lot[::-1], many), wanted)
                    self.assertEqual(rank_tuples(table.signs, Ranks(table), lot, many), wanted)

    def test_by_rows_and_by_ranks(self):
        for table in FAIR:
            ranks = Ranks(table)
            for many in range(13):
                if table.many ** many <= 20000 and (table.many > 1 or many < 3):
                    for lot in all_lots(table.columns)[::17]:
                        found = tuples_just(table, list(table[table.many // 2]), lot, many)
                        self.assertEqual(found, rank_tuples(table.signs, ranks, lot, many))

    def test_no_rows(self):
        for table in FAIR[:12]:
            for lot in all_lots(table.columns):
                wanted = 1 if len(lot) == table.columns else 0
                self.assertEqual(tuples_just(table, table[0], lot, 0), wanted)
                self.assertEqual(rank_tuples(7, Ranks(table), lot, 0), wanted)

    def test_rank_tuples(self):
        for table in FAIR[::4]:
            ranks = Ranks(table)
            for lot in all_lots(table.columns)[::3]:
                for signs, many in ((2, 1), (3, 2), (36, 12), (5, 0)):
                    self.assertEqual(rank_tuples(signs, ranks, lot[::-1], many), plain_a(signs ** many, ranks, lot))

    def test_many_rows(self):
        table = Table.full(2, 1)
        self.assertEqual(tuples_just(table, (1,), (), 12), 2 ** 12 - 1)
        self.assertEqual(tuples_just(table, (1,), [0], 12), 1)
        self.assertEqual(tuples_just(Table(36, [(3, 4)]), (3, 4), (0, 1), 12), 1)

    def test_too_many(self):
        kept = ((Table.full(27, 1), 3), (Table.full(3, 3), 3), (Table.full(5, 1), 6), (Table.full(2, 1), 12),
                (Table.full(36, 2), 1), (Table.full(2, 7), 2))
        for table, many in kept:
            tuples_just(table, table[0], (), many)
        for table, many in ((Table.full(28, 1), 3), (Table.full(12, 2), 2), (Table.full(36, 2), 2), (Table.full(3, 1), 12),
                            (Table.full(2, 2), 8)):
            self.wrong(TooMany, "limit", 20000, tuples_just, table, table[0], (), many)

    def test_tuples_refuse(self):
        self.wrong_lots(3, lambda lot: tuples_just(PARITY, (0, 0, 0), lot, "x"))
        for many in NO_INTEGERS + (-1, 13):
            self.wrong(BadNumber, "name", "many", tuples_just, UNFAIR[3], (0, 0, 0), (), many)
            self.wrong(BadNumber, "name", "many", rank_tuples, 2, Ranks(PARITY), (), many)
        self.wrong(BadLot, "place", 0, tuples_just, UNFAIR[3], (0, 0, 0), (3,), 13)
        self.wrong(NotFair, "lot", (0, 2), tuples_just, UNFAIR[3], (0, 0, 0), (), 12)
        for row in NO_LISTS + ((0, 0), (0, 0, 1), (0, 0, False)):
            with self.assertRaises(NoRow) as caught:
                tuples_just(Table.parity(2, 3), row, (), 12)
            self.assertIs(caught.exception.row, row)
        self.wrong(NoRow, "row", (9,), tuples_just, Table.full(12, 2), (9,), (), 12)

    def test_ranks_refuse(self):
        for signs in NO_INTEGERS + (1, 37):
            self.wrong(BadNumber, "name", "signs", rank_tuples, signs, 0, 0, 0)
            self.wrong(BadNumber, "name", "signs", least_many, signs, 0)
        for ranks in (None, PARITY, 3):
            self.wrong(BadNumber, "name", "ranks", rank_tuples, 2, ranks, 0, 99)
            self.wrong(BadNumber, "name", "ranks", least_many, 2, ranks)
        self.wrong_lots(3, lambda lot: rank_tuples(2, Ranks(PARITY), lot, 99))

    def test_least_many(self):
        for table in FAIR:
            ranks = Ranks(table)
            fixed = ranks.told(())
            for signs in (2, 3, 4, 36, table.signs):
                found = least_many(signs, ranks)
                self.assertLessEqual(found, 4)
                self.assertEqual([many for many in range(5) if plain_a(signs ** many, ranks, fixed) != 0][0], found)
                self.assertEqual(found == 0, ranks.total == 0)

    def test_least_many_shows_rows(self):
        for table in [table for table in FAIR if table.many <= 16]:
            ranks = Ranks(table)
            fixed = ranks.told(())
            for many in range(4):
                if table.many ** many <= 4096:
                    for row in table.rows[:3]:
                        found = plain_tuples(table, row, fixed, many) > 0
                        self.assertEqual(found, many >= least_many(table.signs, ranks))

    def test_least_many_values(self):
        self.assertEqual(least_many(2, Ranks(Table(2, [(0, 1)]))), 0)
        self.assertEqual(least_many(2, Ranks(Table.full(2, 8))), 1)
        self.assertEqual(least_many(3, Ranks(PARITY)), 1)
        self.assertEqual(least_many(2, Ranks(PARITY)), 2)
        self.assertEqual([least_many(signs, Ranks(line(7, 8))) for signs in (2, 3, 7)], [1, 1, 2])
        seven = Table(2, [(x, y, z, x ^ y, x ^ z, y ^ z, x ^ y ^ z) for x, y, z in product(range(2), repeat=3)])
        self.assertEqual([least_many(signs, Ranks(seven)) for signs in (2, 3, 4)], [3, 1, 2])
        beside = Ranks(Table.parity(5, 3) + line(5, 5))
        self.assertEqual([least_many(signs, beside) for signs in (2, 3, 4, 5)], [3, 1, 2, 1])

    def test_example(self):
        self.assertEqual([tuples_just(PARITY, (0, 0, 0), (), 2), rank_tuples(2, Ranks(PARITY), (), 1),
                          least_many(2, Ranks(PARITY))], [6, 0, 2])


if __name__ == "__main__":
    unittest.main()
