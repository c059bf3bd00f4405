"""Lots: [2] and the section toldorfree/lots.py."""

import unittest

from tests.asking import Asking
from tests.samples import NO_INTEGERS, all_lots
from toldorfree.errors import BadLot, BadNumber
from toldorfree.lots import common, lot_of, lots_of, minus, plus, rest_of


class LotsTest(Asking):
    def test_lot_of(self):
        self.assertEqual(lot_of([2, 0, 1], 3), (0, 1, 2))
        self.assertEqual(lot_of((7, 3), 8), (3, 7))
        self.assertEqual(lot_of([], 1), ())
        self.assertEqual(lot_of((0,), 1), (0,))

    def test_results_are_tuples(self):
        for value in (lot_of([1, 0], 2), rest_of([1], 3), plus([1], [0], 2), common([1], [1], 2), minus([1], [0], 2)):
            self.assertIsInstance(value, tuple)

    def test_arguments_stay(self):
        lot = [2, 0]
        lot_of(lot, 3)
        plus(lot, lot, 3)
        self.assertEqual(lot, [2, 0])

    def test_wrong_lots(self):
        for columns in (1, 3, 8):
            self.wrong_lots(columns, lambda lot: lot_of(lot, columns))
            self.wrong_lots(columns, lambda lot: rest_of(lot, columns))
            for call in (plus, common, minus):
                self.wrong_lots(columns, lambda lot: call(lot, (), columns))
                self.wrong_lots(columns, lambda lot: call((), lot, columns))

    def test_wrong_columns_come_first(self):
        for columns in NO_INTEGERS + (0, -1, 9, 10 ** 30):
            for call in (lot_of, rest_of):
                self.wrong(BadNumber, "name", "columns", call, "no lot", columns)
            for call in (plus, common, minus):
                self.wrong(BadNumber, "name", "columns", call, "no lot", 5, columns)
            self.wrong(BadNumber, "name", "columns", lambda: list(lots_of(columns, most="x")))

    def test_the_earlier_lot_comes_first(self):
        for call in (plus, common, minus):
            self.wrong(BadLot, "place", 1, call, (0, 3), 7, 3)
            self.wrong(BadLot, "place", -1, call, (0, 2), 7, 3)

    def test_unions_and_the_like(self):
        for one in all_lots(4):
            self.assertEqual(rest_of(one, 4), tuple(sorted({0, 1, 2, 3} - set(one))))
            for other in all_lots(4):
                back = list(reversed(other))
                self.assertEqual(plus(one, back, 4), tuple(sorted(set(one) | set(other))))
                self.assertEqual(common(one, back, 4), tuple(sorted(set(one) & set(other))))
                self.assertEqual(minus(one, back, 4), tuple(sorted(set(one) - set(other))))

    def test_rest_of_eight(self):
        self.assertEqual(rest_of((), 8), (0, 1, 2, 3, 4, 5, 6, 7))
        self.assertEqual(rest_of([7, 6, 5, 4, 3, 2, 1, 0], 8), ())

    def test_lots_in_lot_order(self):
        self.assertEqual(list(lots_of(3)), [(), (0,), (1,), (2,), (0, 1), (0, 2), (1, 2), (0, 1, 2)])
        for columns in range(1, 9):
            self.assertEqual(list(lots_of(columns)), all_lots(columns))
            self.assertEqual(list(lots_of(columns, most=None)), all_lots(columns))

    def test_lots_of_few_columns(self):
        for most in range(10):
            self.assertEqual(list(lots_of(8, most=most)), [lot for lot in all_lots(8) if len(lot) <= most])
        self.assertEqual(list(lots_of(2, most=10 ** 30)), all_lots(2))
        self.assertEqual(list(lots_of(2, most=0)), [()])

    def test_wrong_most(self):
        for most in (True, False, -1, 1.0, "1", (1,)):
            self.wrong(BadNumber, "name", "most", lambda: list(lots_of(3, most=most)))

    def test_most_is_passed_by_keyword(self):
        with self.assertRaises(TypeError):
            lots_of(3, 1)

    def test_lots_of_is_a_generator_that_checks_first(self):
        self.assertEqual(next(lots_of(8)), ())
        self.wrong(BadNumber, "name", "columns", lambda: next(lots_of(0)))
        self.wrong(BadNumber, "name", "most", lambda: next(lots_of(1, most=-1)))


if __name__ == "__main__":
    unittest.main()
