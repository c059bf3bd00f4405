"""Rebuilt tables: [20] and the section toldorfree/rebuilding.py."""

import unittest
from itertools import product

from tests.asking import Asking
from tests.samples import FAIR, NO_INTEGERS, NO_LISTS, UNFAIR, parts
from toldorfree.circuits import bases_of, circuit_in
from toldorfree.errors import BadLot, BadNumber, BadRow, NotFair, TooMany
from toldorfree.fairness import is_fair
from toldorfree.rebuilding import base_parts, rebuilt, rows_fitting
from toldorfree.sums import cubes_of
from toldorfree.tables import Table

EVEN = Table.parity(2, 2)


def plain_fitting(signs, columns, pairs):
    return tuple(row for row in product(range(signs), repeat=columns)
                 if all(tuple(row[column] for column in sorted(lot)) in table for lot, table in pairs))


class RowsFittingTest(Asking):
    def test_no_parts(self):
        self.assertEqual(rows_fitting(3, 2, ()), tuple(product(range(3), repeat=2)))
        self.assertEqual(rows_fitting(2, 1, []), ((0,), (1,)))

    def test_some_parts(self):
        lists = (
            [((0, 1), EVEN)], [((1, 0), EVEN), ((2, 1), EVEN)], [((3, 0), EVEN)],
            [((0, 1), EVEN), ((0, 1), Table(2, [(0, 0), (0, 1)]))],
            [((0, 1), EVEN), ((1, 0), Table(2, [(1, 0)]))],
            [((0, 1, 2), UNFAIR[0].with_copy(0)), ([2], Table(2, [(1,)]))],
            [([3, 1, 0], Table(2, [(0, 1, 1), (1, 0, 0), (1, 0, 1)])), [(0, 2), Table(2, [(0, 1), (1, 0)])]],
            [((0, 1, 2, 3), Table.parity(2, 4)), ((2, 3), Table.full(2, 2)), ((1, 3), EVEN)],
            [((0, 1), EVEN), ((1, 2), EVEN), ((0, 2), Table(2, [(0, 1), (1, 0)]))],
        )
        for pairs in lists:
            found = rows_fitting(2, 4, pairs)
            self.assertEqual(found, plain_fitting(2, 4, pairs))
            self.is_tuples(found)
            self.assertEqual(rows_fitting(2, 4, tuple(pairs)), found)

    def test_lot_in_any_order_means_the_ascending_one(self):
        table = Table(3, [(0, 2)])
        self.assertEqual(rows_fitting(3, 2, [((1, 0), table)]), ((0, 2),))

    def test_no_row_fits(self):
        pairs = [((0,), Table(36, [(3,)])), ([0], Table(36, [(4,)]))]
        self.assertEqual(rows_fitting(36, 8, pairs), ())
        pairs = [((0,), Table(36, [(3,)])), ([7], Table(36, [(3,)])), ((0, 7), Table(36, [(3, 4), (4, 3)]))]
        self.assertEqual(rows_fitting(36, 8, pairs), ())

    def test_wrong_numbers(self):
        for signs in NO_INTEGERS + (1, 37):
            self.wrong(BadNumber, "name", "signs", rows_fitting, signs, 0, 0)
        for columns in NO_INTEGERS + (0, 9):
            self.wrong(BadNumber, "name", "columns", rows_fitting, 2, columns, 0)

    def test_wrong_parts(self):
        good = ((0, 1), EVEN)
        for pairs in NO_LISTS:
            self.wrong(BadRow, "place", -1, rows_fitting, 2, 3, pairs)
        for entry in NO_LISTS + ((), good[:1], good + (0,), ((0,), EVEN), ((0, 1, 2), EVEN), ((0, 3), EVEN),
                                 ((0, 0), EVEN), ((True, 0), EVEN), ("01", EVEN), ((0, 1), EVEN.rows),
                                 ((0, 1), Table.parity(3, 2)), ((), EVEN), (EVEN, (0, 1)), ({0, 1}, EVEN)):
            self.wrong(BadRow, "place", 0, rows_fitting, 2, 3, [entry, 3])
            self.wrong(BadRow, "place", 1, rows_fitting, 2, 3, (good, entry, good))

    def test_as_many_as_allowed(self):
        few = Table(20, [(k,) for k in range(5)])
        more = Table(20, [(k,) for k in range(10)])
        found = rows_fitting(20, 4, [((1,), few), ((3,), more)])
        self.assertEqual(len(found), 20000)
        self.assertEqual(found[-1], (19, 4, 19, 9))

    def test_too_many(self):
        pairs = list(product(range(36), repeat=2))
        some = [((0,), Table(36, [(0,), (1,), (2,)])), ((2, 1), Table(36, pairs[:59])), ((3, 4), Table(36, pairs[:113]))]
        self.assertEqual(3 * 59 * 113, 20001)
        self.wrong(TooMany, "limit", 20000, rows_fitting, 36, 5, some)
        self.assertEqual(len(rows_fitting(36, 5, some + [((4,), Table(36, [(0,)]))])), 3 * 59 * 4)
        self.wrong(TooMany, "limit", 20000, rows_fitting, 36, 8, ())
        self.assertEqual(len(rows_fitting(5, 6, ())), 15625)

    def test_free_columns_behind_many_signs(self):
        pairs = [((column, 6, 7), Table.parity(36, 3)) for column in range(6)]
        found = rows_fitting(36, 8, pairs)
        self.assertEqual(len(found), 1296)
        self.assertEqual(found[37], (1, 1, 1, 1, 1, 1, 1, 34))

    def test_arguments_stay(self):
        lot = [2, 0]
        pairs = [[lot, EVEN]]
        rows_fitting(2, 3, pairs)
        self.assertEqual(pairs, [[[2, 0], EVEN]])


class RebuiltTest(Asking):
    def test_base_parts(self):
        for table in FAIR:
            for base in bases_of(table)[:6]:
                wanted = [(circuit_in(table, base, column), table.part_table(circuit_in(table, base, column)))
                          for column in range(table.columns) if column not in base]
                found = base_parts(table, base[::-1])
                self.assertEqual(found, tuple(wanted))
                self.is_tuples(found)
        self.assertEqual(base_parts(Table.full(2, 2), (0, 1)), ())
        self.assertEqual(base_parts(Table(2, [(1,)]), ()), (((0,), Table(2, [(1,)])),))

    def test_rebuilt(self):
        for table in FAIR:
            bases = bases_of(table)
            for base in bases[:4] + bases[-4:]:
                self.assertEqual(rebuilt(table, list(base)), table)
                pairs = base_parts(table, base)
                wanted = tuple(row for row in table.rows
                               if all(tuple(row[c] for c in lot) in parts(part, range(len(lot))) for lot, part in pairs))
                self.assertEqual(wanted, table.rows)

    def test_refuses(self):
        table = Table.parity(2, 3)
        for call in (base_parts, rebuilt):
            self.wrong_lots(3, lambda lot: call(table, lot))
            self.wrong(BadLot, "place", 0, call, UNFAIR[0], (2,))
            self.wrong(NotFair, "lot", (0, 1), call, UNFAIR[0], ())
            for base in ((), (0,), (0, 1, 2)):
                self.wrong(BadLot, "place", -1, call, table, base)

    def test_any_cubes_of_few_signs(self):
        lots = [(0, 1, 2), (0, 1, 3), (1, 4)]
        for signs in (2, 3):
            for first in cubes_of(signs, 3):
                for second in cubes_of(signs, 3):
                    for third in cubes_of(signs, 2)[:3]:
                        rows = rows_fitting(signs, 5, list(zip(lots, (first, second, third))))
                        table = Table(signs, rows)
                        self.assertTrue(is_fair(table))
                        self.assertEqual(table.many, signs ** 2)

    def test_cubes_of_four_signs(self):
        rows = rows_fitting(4, 4, [((0, 1, 2), Table(4, [(x, y, (x + y) % 4) for x in range(4) for y in range(4)])),
                                   ((0, 1, 3), Table(4, [(x, y, x ^ y) for x in range(4) for y in range(4)]))])
        self.assertEqual(len(rows), 16)
        self.assertFalse(is_fair(Table(4, rows)))


if __name__ == "__main__":
    unittest.main()
