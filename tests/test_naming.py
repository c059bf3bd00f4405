"""Renamings: [8] and the section toldorfree/naming.py."""

import unittest
from itertools import product

from tests.asking import Asking
from tests.samples import FAIR, NO_INTEGERS, NO_LISTS, UNFAIR, all_lots, plain_circuits, renamings_plainly, shuffled
from toldorfree.errors import BadNames, BadNumber, BadRow, OtherColumns, OtherSigns
from toldorfree.fairness import is_fair, is_full, sees
from toldorfree.breaks import table_circuits
from toldorfree.naming import Renaming, renamed
from toldorfree.tables import Table

TURN = Renaming([(1, 2, 0), [0, 2, 1]])


class NamingTest(Asking):
    def test_attributes(self):
        self.assertEqual(TURN.names, ((1, 2, 0), (0, 2, 1)))
        self.assertEqual((TURN.signs, TURN.columns), (3, 2))
        self.is_tuples(TURN.names)
        wide = Renaming([tuple(range(36))] * 8)
        self.assertEqual((wide.signs, wide.columns), (36, 8))
        self.assertEqual(Renaming(((1, 0),)).names, ((1, 0),))

    def test_wrong_names(self):
        for names in NO_LISTS + ([], (), [(0, 1)] * 9):
            self.wrong(BadNames, "column", -1, Renaming, names)
        for entry in NO_LISTS + ((), (0,), (0, 0), (0, 2), (1, 2), (0, True), (False, 1), (0, 1.0), ("0", 1), (-1, 0)):
            self.wrong(BadNames, "column", 0, Renaming, [entry])
            self.wrong(BadNames, "column", 1, Renaming, [(1, 0), entry, 3])
        self.wrong(BadNames, "column", 0, Renaming, [tuple(range(37))])
        self.wrong(BadNames, "column", 2, Renaming, [(0, 1, 2), (1, 0, 2), (0, 1), (0, 0, 0)])
        self.wrong(BadNames, "column", 1, Renaming, [(0, 1), (0, 1, 2)])
        self.wrong(BadNames, "column", 1, Renaming, [(0, 1), (0, 1, 0)])

    def test_same(self):
        for signs, columns in ((2, 1), (36, 8), (5, 3)):
            same = Renaming.same(signs, columns)
            self.assertEqual(same.names, (tuple(range(signs)),) * columns)
            self.assertEqual((same.signs, same.columns), (signs, columns))
        for signs in NO_INTEGERS + (1, 37):
            self.wrong(BadNumber, "name", "signs", Renaming.same, signs, 0)
        for columns in NO_INTEGERS + (0, 9):
            self.wrong(BadNumber, "name", "columns", Renaming.same, 36, columns)

    def test_a_list_changed_later(self):
        entry = [1, 0]
        names = [entry]
        renaming = Renaming(names)
        entry[0] = 0
        names.append(entry)
        self.assertEqual(renaming.names, ((1, 0),))
        self.assertEqual(renaming.columns, 1)

    def test_renamed_row(self):
        self.assertEqual(TURN((0, 1)), (1, 2))
        self.assertEqual(TURN([2, 2]), (0, 1))
        for row in NO_LISTS + ((), (0,), (0, 1, 2), (0, 3), (-1, 0), (True, 0), (0, 1.0), ("0", 0), ([], 0)):
            self.wrong(BadRow, "place", -1, TURN, row)

    def test_items(self):
        self.assertEqual([TURN[0], TURN[1], list(TURN)], [(1, 2, 0), (0, 2, 1), [(1, 2, 0), (0, 2, 1)]])
        for column in NO_INTEGERS + (-1, 2):
            self.wrong(BadNumber, "name", "column", lambda: TURN[column])

    def test_product_and_undoing(self):
        some = renamings_plainly(3, 2)
        for f in some[::5]:
            for g in some[::7]:
                for row in product(range(3), repeat=2):
                    self.assertEqual((f * g)(row), f(g(row)))
        for f in some:
            self.assertEqual(~f * f, Renaming.same(3, 2))
            self.assertEqual(f * ~f, Renaming.same(3, 2))

    def test_product_refuses(self):
        self.wrong(OtherSigns, "signs", 2, lambda: TURN * Renaming.same(2, 3))
        self.wrong(OtherColumns, "columns", 3, lambda: TURN * Renaming.same(3, 3))
        with self.assertRaises(TypeError):
            TURN * 3

    def test_equal(self):
        self.assertTrue(TURN == Renaming(((1, 2, 0), (0, 2, 1))))
        self.assertFalse(TURN == Renaming.same(3, 2))
        self.assertTrue(TURN != Renaming.same(3, 2))
        for value in (TURN.names, None, 3):
            self.assertIs(TURN == value, False)

    def test_renamed(self):
        table = Table(3, [(0, 1), (2, 2)])
        self.assertEqual(renamed(table, TURN), Table(3, [(1, 2), (0, 1)]))
        self.assertEqual(table.rows, ((0, 1), (2, 2)))
        self.wrong(OtherSigns, "signs", 2, renamed, table, Renaming.same(2, 1))
        self.wrong(OtherColumns, "columns", 1, renamed, table, Renaming.same(3, 1))

    def test_renamed_tables_see_alike(self):
        for number, table in enumerate(FAIR[1:20] + UNFAIR):
            other = shuffled(table, number)
            self.assertEqual(plain_circuits(other), plain_circuits(table))
            self.assertEqual(table_circuits(other), table_circuits(table))
            self.assertEqual(is_fair(other), is_fair(table))
            for lot in all_lots(table.columns):
                self.assertEqual(is_full(other, lot), is_full(table, lot))
                for column in range(table.columns):
                    self.assertEqual(sees(other, lot, column), sees(table, lot, column))

    def test_moved_tables_see_alike(self):
        for table in [table for table in FAIR + UNFAIR if 2 <= table.columns <= 4]:
            order = tuple(range(1, table.columns)) + (0,)
            moved = table.moved(order)
            self.assertEqual(is_fair(moved), is_fair(table))
            for lot in all_lots(table.columns):
                before = [order[column] for column in lot]
                self.assertEqual(is_full(moved, lot), is_full(table, before))
                for column in range(table.columns):
                    self.assertEqual(sees(moved, lot, column), sees(table, before, order[column]))

    def test_copies(self):
        for table in [table for table in FAIR + UNFAIR if table.columns <= 6]:
            for column in range(table.columns):
                self.assertEqual(is_fair(table.with_copy(column)), is_fair(table))


if __name__ == "__main__":
    unittest.main()
