"""Tables: [3], [6] and the section toldorfree/tables.py."""

import unittest
from itertools import permutations, product

from tests.asking import Asking
from tests.samples import FAIR, NO_INTEGERS, NO_LISTS, UNFAIR, all_lots, parts
from toldorfree.errors import BadLot, BadNumber, BadRow, NoRow, OtherColumns, OtherSigns, TooMany
from toldorfree.tables import Table

SMALL = Table(3, [(2, 0), (0, 1), (0, 0)])


class MakingTest(Asking):
    def test_rows_are_ascending_tuples(self):
        table = Table(3, [[2, 0], (0, 1), [0, 0]])
        self.assertEqual(table.rows, ((0, 0), (0, 1), (2, 0)))
        self.assertEqual((table.signs, table.columns, table.many), (3, 2, 3))
        self.is_tuples(table.rows)

    def test_rows_may_be_a_tuple(self):
        self.assertEqual(Table(3, ((2, 0), (0, 1), (0, 0))), SMALL)

    def test_sizes(self):
        self.assertEqual(Table(2, [(0,)]).columns, 1)
        self.assertEqual(Table(36, [(35, 0, 1, 2, 3, 4, 5, 6)]).columns, 8)
        rows = list(product(range(11), repeat=3))
        self.assertEqual(Table(11, rows[:1300]).many, 1300)
        self.wrong(BadRow, "place", -1, Table, 11, rows[:1301])

    def test_wrong_signs(self):
        for signs in NO_INTEGERS + (-2, 0, 1, 37, 10 ** 20):
            self.wrong(BadNumber, "name", "signs", Table, signs, "no rows")

    def test_wrong_rows(self):
        for rows in NO_LISTS + ([], ()):
            self.wrong(BadRow, "place", -1, Table, 2, rows)

    def test_wrong_row(self):
        for row in NO_LISTS + ((), [], (0,) * 9, (0, 2), (-1, 0), (True, 0), (0, False), (0, 1.0), ("0", 0), ([0], 1)):
            self.wrong(BadRow, "place", 0, Table, 2, [row])
            self.wrong(BadRow, "place", 0, Table, 2, [row, (0, 2)])
            self.wrong(BadRow, "place", 1, Table, 2, [(0, 1), row, 5])
        for row in ((0,), (0, 1, 1)):
            self.wrong(BadRow, "place", 2, Table, 2, [(0, 1), (1, 1), row, (0, 1)])

    def test_a_row_twice(self):
        self.wrong(BadRow, "place", 2, Table, 2, [(0, 1), (1, 1), [0, 1], (1, 1)])

    def test_full(self):
        for signs, columns in ((2, 1), (2, 8), (3, 6), (6, 4), (10, 3), (36, 1), (36, 2)):
            table = Table.full(signs, columns)
            self.assertEqual(table.rows, tuple(product(range(signs), repeat=columns)))
            self.assertEqual((table.signs, table.columns), (signs, columns))

    def test_parity(self):
        for signs, columns in ((2, 1), (2, 8), (3, 7), (4, 4), (36, 1), (36, 3), (36, 2)):
            rows = tuple(row for row in product(range(signs), repeat=columns) if sum(row) % signs == 0)
            self.assertEqual(Table.parity(signs, columns).rows, rows)

    def test_full_and_parity_refuse(self):
        for call in (Table.full, Table.parity):
            for signs in NO_INTEGERS + (1, 37):
                self.wrong(BadNumber, "name", "signs", call, signs, 0)
            for columns in NO_INTEGERS + (0, -1, 9):
                self.wrong(BadNumber, "name", "columns", call, 36, columns)
        for signs, columns in ((36, 3), (6, 5), (11, 3), (4, 6), (36, 8)):
            self.wrong(TooMany, "limit", 1300, Table.full, signs, columns)
            if columns < 8:
                self.wrong(TooMany, "limit", 1300, Table.parity, signs, columns + 1)

    def test_a_list_changed_later(self):
        row = [0, 1]
        rows = [row, [1, 1]]
        table = Table(2, rows)
        row[0] = 1
        rows.append([0, 0])
        self.assertEqual(table.rows, ((0, 1), (1, 1)))
        self.assertEqual(table.number_of((0, 1)), 0)
        self.assertEqual(rows, [[1, 1], [1, 1], [0, 0]])


class AskingTablesTest(Asking):
    def test_alike(self):
        self.assertEqual(Table.alike((0, 1, 2), [0, 2, 2]), (0, 2))
        self.assertEqual(Table.alike([], ()), ())
        self.assertEqual(SMALL.alike((0, 1), (1, 0)), ())
        self.assertEqual(Table.alike((4,) * 8, (4,) * 8), tuple(range(8)))

    def test_alike_refuses(self):
        for row in NO_LISTS:
            self.wrong(BadRow, "place", 0, Table.alike, row, row)
            self.wrong(BadRow, "place", 1, Table.alike, (0, 1), row)
        self.wrong(OtherColumns, "columns", 3, Table.alike, (0, 1), [0, 1, 2])

    def test_part_rows(self):
        self.assertEqual(SMALL.part_rows([0]), ((0,), (2,)))
        self.assertEqual(SMALL.part_rows([1, 0]), SMALL.rows)
        self.assertEqual(SMALL.part_rows(()), ((),))
        for table in FAIR[:20] + UNFAIR:
            for lot in all_lots(table.columns):
                self.assertEqual(table.part_rows(lot), tuple(sorted(parts(table, lot))))
        self.wrong_lots(2, SMALL.part_rows)

    def test_rows_with(self):
        self.assertEqual(SMALL.rows_with((0,), [0]), (0, 1))
        self.assertEqual(SMALL.rows_with((1, 0), (2, 0)), (2,))
        self.assertEqual(SMALL.rows_with([1], (2,)), ())
        self.assertEqual(SMALL.rows_with((), ()), (0, 1, 2))
        self.assertEqual(SMALL.rows_with((), []), (0, 1, 2))
        for part in NO_LISTS + ((), (0, 0), [True], [3], [-1], ["0"], [[0]], (0.0,)):
            self.assertEqual(SMALL.rows_with((0,), part), ())
        self.assertEqual(SMALL.rows_with((), (0,)), ())
        self.wrong_lots(2, lambda lot: SMALL.rows_with(lot, None))

    def test_number_of(self):
        for table in FAIR[:12]:
            for number, row in enumerate(table.rows):
                self.assertEqual(table.number_of(row), number)
                self.assertEqual(table.number_of(list(row)), number)
        for row in NO_LISTS + ((), (1, 1), (0, 0, 0), (False, 0), [0, [1]], (0.0, 0), [{}, {}]):
            with self.assertRaises(NoRow) as caught:
                SMALL.number_of(row)
            self.assertIs(caught.exception.row, row)

    def test_contains(self):
        self.assertTrue((0, 1) in SMALL and [2, 0] in SMALL)
        for row in NO_LISTS + ((1, 1), (0,), (0, 0, 0), (False, False), (0.0, 0), [[0], 0]):
            self.assertIs(row in SMALL, False)

    def test_items(self):
        self.assertEqual([SMALL[0], SMALL[1], SMALL[2]], [(0, 0), (0, 1), (2, 0)])
        for number in NO_INTEGERS + (-1, 3, slice(0, 1), 10 ** 30):
            self.wrong(BadNumber, "name", "number", lambda: SMALL[number])

    def test_length_and_iteration(self):
        self.assertEqual(len(SMALL), 3)
        self.assertEqual(list(SMALL), [(0, 0), (0, 1), (2, 0)])
        self.assertEqual(list(SMALL), list(SMALL))

    def test_equal(self):
        self.assertTrue(SMALL == Table(3, [[0, 0], [0, 1], [2, 0]]))
        self.assertFalse(SMALL == Table(4, SMALL.rows))
        self.assertFalse(SMALL == Table(3, SMALL.rows[:2]))
        self.assertTrue(SMALL != Table(3, SMALL.rows[:2]))
        for value in (SMALL.rows, list(SMALL.rows), None, 3, "x"):
            self.assertIs(SMALL == value, False)


class TablesOfTablesTest(Asking):
    def test_part_table(self):
        self.assertEqual(SMALL.part_table([0]), Table(3, [(0,), (2,)]))
        self.assertEqual(SMALL.part_table([1, 0]), SMALL)
        self.wrong(BadLot, "place", -1, SMALL.part_table, ())
        self.wrong_lots(2, SMALL.part_table)

    def test_minus(self):
        self.assertEqual(SMALL - [1], Table(3, [(0,), (2,)]))
        self.assertEqual(SMALL - (), SMALL)
        self.wrong(BadLot, "place", -1, lambda: SMALL - (1, 0))
        self.wrong_lots(2, lambda lot: SMALL - lot)

    def test_part_table_is_minus_the_rest(self):
        for table in FAIR[:12] + UNFAIR[:5]:
            for lot in all_lots(table.columns)[1:]:
                rest = tuple(column for column in range(table.columns) if column not in lot)
                self.assertEqual(table.part_table(lot), table - rest)

    def test_minus_twice(self):
        table = Table.parity(2, 5)
        for first in all_lots(5)[:-1]:
            stay = [column for column in range(5) if column not in first]
            for second in all_lots(len(stay))[:-1]:
                both = first + tuple(stay[column] for column in second)
                self.assertEqual((table - first) - second, table - both)

    def test_beside(self):
        other = Table(3, [(1,), (2,)])
        self.assertEqual((SMALL + other).rows,
                         ((0, 0, 1), (0, 0, 2), (0, 1, 1), (0, 1, 2), (2, 0, 1), (2, 0, 2)))
        self.assertEqual((SMALL + other).part_table((0, 1)), SMALL)
        self.assertEqual((SMALL + other).part_table((2,)), other)
        self.assertEqual((SMALL + other).signs, 3)

    def test_beside_refuses(self):
        self.wrong(OtherSigns, "signs", 2, lambda: SMALL + Table.full(2, 8))
        wide = Table(3, [(0,) * 7])
        self.wrong(BadNumber, "name", "columns", lambda: SMALL + wide)
        self.assertEqual((SMALL + Table(3, [(0,) * 6])).columns, 8)
        self.wrong(BadNumber, "name", "columns", lambda: Table.full(2, 8) + Table.full(2, 8))
        self.wrong(TooMany, "limit", 1300, lambda: Table.full(11, 2) + Table.full(11, 1))
        self.assertEqual((Table.full(36, 1) + Table.full(36, 1)).many, 1296)
        self.assertEqual((Table(36, [(k,) for k in range(26)])
                          + Table(36, [(k, j) for k in range(25) for j in range(2)])).many, 1300)

    def test_paired(self):
        other = Table(2, [(1, 0), (0, 1)])
        paired = SMALL * other
        self.assertEqual(paired.signs, 6)
        self.assertEqual(paired.rows, ((0, 1), (0, 3), (1, 0), (1, 2), (4, 1), (5, 0)))
        self.assertEqual({tuple(sign // 2 for sign in row) for row in paired}, set(SMALL.rows))
        self.assertEqual({tuple(sign % 2 for sign in row) for row in paired}, set(other.rows))

    def test_paired_refuses(self):
        self.wrong(OtherColumns, "columns", 3, lambda: SMALL * Table.full(36, 2).with_copy(0))
        self.wrong(BadNumber, "name", "signs", lambda: SMALL * Table.full(13, 2))
        self.assertEqual((SMALL * Table.full(12, 2)).signs, 36)
        self.wrong(TooMany, "limit", 1300, lambda: Table.full(6, 3) * Table.full(6, 3))
        self.wrong(BadNumber, "name", "signs", lambda: Table.full(36, 2) * Table.full(36, 2))
        self.wrong(BadNumber, "name", "signs", lambda: Table.full(7, 2) * Table.full(7, 2))

    def test_operators_with_other_values(self):
        for value in (3, "x", (0,), None):
            with self.assertRaises(TypeError):
                SMALL + value
            with self.assertRaises(TypeError):
                SMALL * value

    def test_moved(self):
        table = Table(4, [(0, 1, 2), (3, 2, 2)])
        self.assertEqual(table.moved([2, 0, 1]).rows, ((2, 0, 1), (2, 3, 2)))
        for order in permutations(range(3)):
            moved = table.moved(order)
            for place, column in enumerate(order):
                self.assertEqual(moved.part_rows((place,)), table.part_rows((column,)))
        self.assertEqual(table.moved((0, 1, 2)), table)

    def test_moved_refuses(self):
        self.wrong_lots(2, SMALL.moved)
        for order in ((), [0], (1,)):
            self.wrong(BadLot, "place", -1, SMALL.moved, order)
        self.wrong(BadLot, "place", 2, SMALL.moved, (0, 1, 0))

    def test_with_copy(self):
        self.assertEqual(SMALL.with_copy(1).rows, ((0, 0, 0), (0, 1, 1), (2, 0, 0)))
        self.assertEqual(SMALL.with_copy(0).rows, ((0, 0, 0), (0, 1, 0), (2, 0, 2)))
        for column in NO_INTEGERS + (-1, 2):
            self.wrong(BadNumber, "name", "column", SMALL.with_copy, column)
        self.assertEqual(Table.parity(2, 7).with_copy(6).columns, 8)
        self.wrong(BadNumber, "name", "columns", Table.full(2, 8).with_copy, 0)
        self.wrong(BadNumber, "name", "column", Table.full(2, 8).with_copy, 8)

    def test_arguments_stay(self):
        order, lot = [1, 0], [1]
        SMALL.moved(order)
        SMALL.part_table(lot)
        SMALL.rows_with(lot, lot)
        self.assertEqual((order, lot), ([1, 0], [1]))
        self.assertEqual(SMALL.rows, ((0, 0), (0, 1), (2, 0)))


if __name__ == "__main__":
    unittest.main()
