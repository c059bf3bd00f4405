"""Circuits and bases: [18], [19], [26] and the section toldorfree/circuits.py."""

import unittest

from tests.asking import Asking
from tests.samples import (FAIR, NO_INTEGERS, UNFAIR, all_lots, bases_plainly, line, plain_circuits, plain_full,
                           plain_latin, plain_rank, plain_tells, smaller)
from toldorfree.circuits import (bases_of, circuit_in, circuits_of, connecting_circuit, equal_columns, fixed_columns,
                                 least_base)
from toldorfree.errors import BadLot, BadNumber, NotFair
from toldorfree.ranks import Ranks, hangs_together
from toldorfree.tables import Table

TWICE = Table.parity(3, 3).with_copy(2) + Table(3, [(1,)])


class CircuitsTest(Asking):
    def test_circuits(self):
        for table in FAIR:
            self.assertEqual(circuits_of(table), tuple(plain_circuits(table)))
            self.is_tuples(circuits_of(table))
        self.assertEqual(circuits_of(Table.full(2, 8)), ())
        self.assertEqual(circuits_of(TWICE), ((4,), (2, 3), (0, 1, 2), (0, 1, 3)))

    def test_what_circuits_do(self):
        for table in FAIR:
            ranks, circuits = Ranks(table), circuits_of(table)
            for circuit in circuits:
                self.assertEqual(ranks.rank(circuit), len(circuit) - 1)
                for column in circuit:
                    others = [other for other in circuit if other != column]
                    self.assertIn(column, ranks.told(others))
            for lot in all_lots(table.columns)[::3]:
                self.assertEqual(not plain_full(table, lot), any(set(circuit) <= set(lot) for circuit in circuits))
                for column in [column for column in range(table.columns) if column not in lot]:
                    held = any(column in circuit and set(circuit) <= set(lot + (column,)) for circuit in circuits)
                    self.assertEqual(column in ranks.told(lot), held)

    def test_two_circuits_with_a_common_column(self):
        for table in FAIR:
            circuits = [set(circuit) for circuit in circuits_of(table)]
            for one in circuits:
                for other in circuits:
                    for column in (one & other if one != other else ()):
                        self.assertTrue(any(third <= (one | other) - {column} for third in circuits))

    def test_bases(self):
        for table in FAIR:
            bases = tuple(bases_plainly(table))
            self.assertEqual(bases_of(table), tuple(sorted(bases)))
            self.assertEqual(least_base(table), min(bases))
            self.assertEqual({len(base) for base in bases}, {Ranks(table).total})
        self.assertEqual(bases_of(Table(2, [(0, 1)])), ((),))
        self.assertEqual(least_base(Table(2, [(0, 1)])), ())
        self.assertEqual(bases_of(Table.parity(2, 3)), ((0, 1), (0, 2), (1, 2)))

    def test_full_lots_are_parts_of_bases(self):
        for table in FAIR:
            bases = bases_of(table)
            for lot in all_lots(table.columns):
                self.assertEqual(plain_full(table, lot), any(set(lot) <= set(base) for base in bases))

    def test_exchange(self):
        for table in FAIR[::2]:
            bases = bases_of(table)
            for one in bases[:12]:
                for other in bases[-12:]:
                    for column in set(one) - set(other):
                        self.assertTrue(any(tuple(sorted(set(one) - {column} | {new})) in bases
                                            for new in set(other) - set(one)))

    def test_circuit_in(self):
        for table in FAIR:
            circuits = plain_circuits(table)
            for base in bases_of(table)[:10]:
                for column in [column for column in range(table.columns) if column not in base]:
                    held = [lot for lot in circuits if set(lot) <= set(base) | {column}]
                    self.assertEqual(held, [circuit_in(table, base[::-1], column)])
        self.assertEqual(circuit_in(TWICE, [3, 0], 1), (0, 1, 3))
        self.assertEqual(circuit_in(TWICE, [3, 0], 2), (2, 3))
        self.assertEqual(circuit_in(TWICE, (0, 1), 4), (4,))
        self.assertEqual(circuit_in(Table(2, [(1,)]), (), 0), (0,))

    def test_circuit_in_refuses(self):
        table = Table.parity(2, 3)
        self.wrong_lots(3, lambda lot: circuit_in(table, lot, 9))
        for column in NO_INTEGERS + (-1, 3):
            self.wrong(BadNumber, "name", "column", circuit_in, table, (0,), column)
            self.wrong(BadNumber, "name", "column", circuit_in, UNFAIR[0].with_copy(0), (0,), column)
        self.wrong(BadLot, "place", 1, circuit_in, UNFAIR[0], (0, 2), 5)
        self.wrong(NotFair, "lot", (0, 1), circuit_in, UNFAIR[0], (0, 1), 0)
        for base in ((), (0,), (0, 1, 2)):
            self.wrong(BadLot, "place", -1, circuit_in, table, base, 0)
        self.wrong(BadLot, "place", -1, circuit_in, TWICE, (2, 3), 0)
        self.wrong(BadLot, "place", -1, circuit_in, TWICE, (2, 4), 0)
        for column in (0, 1):
            self.wrong(BadNumber, "name", "column", circuit_in, table, (1, 0), column)

    def test_fixed_columns(self):
        for table in FAIR:
            fixed = tuple(column for column in range(table.columns) if len({row[column] for row in table.rows}) == 1)
            self.assertEqual(fixed_columns(table), fixed)
        self.assertEqual(fixed_columns(TWICE), (4,))
        self.assertEqual(fixed_columns(Table.full(2, 8)), ())

    def test_equal_columns(self):
        for table in FAIR:
            fixed = fixed_columns(table)
            lots = {tuple(other for other in range(table.columns) if other not in fixed
                          and plain_tells(table, (column,), other) and plain_tells(table, (other,), column))
                    for column in range(table.columns) if column not in fixed}
            self.assertEqual(equal_columns(table), tuple(sorted(lots)))
            rank = Ranks(table).total
            self.assertLessEqual(len(lots), (table.signs ** rank - 1) // (table.signs - 1))
        self.assertEqual(equal_columns(TWICE), ((0,), (1,), (2, 3)))
        self.assertEqual(equal_columns(Table(3, [(0, 1)])), ())
        self.assertEqual(equal_columns(Table(2, [(0, 1, 0, 1), (1, 0, 0, 0)])), ((0, 1, 3),))
        self.assertEqual(len(equal_columns(line(7, 8))), 8)
        self.assertEqual(len(equal_columns(line(3, 4))), 4)

    def test_connecting_circuit(self):
        for table in FAIR:
            circuits = plain_circuits(table)
            for one in range(table.columns):
                for other in range(table.columns):
                    if one != other:
                        held = [lot for lot in circuits if one in lot and other in lot]
                        self.assertEqual(connecting_circuit(table, one, other), held[0] if held else None)
        self.assertEqual(connecting_circuit(TWICE, 1, 0), (0, 1, 2))
        self.assertIsNone(connecting_circuit(TWICE, 0, 4))

    def test_hanging_together_by_circuits(self):
        for table in FAIR:
            if table.columns >= 2:
                joined = all(connecting_circuit(table, one, other) for one in range(table.columns)
                             for other in range(one))
                self.assertEqual(hangs_together(table), joined)

    def test_connecting_circuit_refuses(self):
        for table in (Table.parity(2, 2), UNFAIR[0]):
            for column in NO_INTEGERS + (-1, 2):
                self.wrong(BadNumber, "name", "column", connecting_circuit, table, column, 0)
                self.wrong(BadNumber, "name", "column", connecting_circuit, table, 0, column)
            self.wrong(BadNumber, "name", "column", connecting_circuit, table, 1, 1)
        self.wrong(NotFair, "lot", (0, 1), connecting_circuit, UNFAIR[0], 0, 1)

    def test_not_fair(self):
        for table in UNFAIR:
            lot = [lot for lot in plain_circuits(table) if not plain_latin(table.part_table(lot))][0]
            for call in (circuits_of, bases_of, least_base, fixed_columns, equal_columns):
                self.wrong(NotFair, "lot", lot, call, table)

    def test_short_rank(self):
        self.assertEqual(plain_rank(TWICE, (2, 3)), 1)
        self.assertEqual(smaller((0, 1)), [(), (0,), (1,)])


if __name__ == "__main__":
    unittest.main()
