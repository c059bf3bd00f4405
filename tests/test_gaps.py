"""Far apart and near: [21] to [23] and the section toldorfree/gaps.py."""

import unittest
from itertools import combinations, product

from tests.asking import Asking
from tests.samples import (FAIR, NO_INTEGERS, NO_LISTS, UNFAIR, plain_circuits, plain_rank, shuffled)
from toldorfree.circuits import circuits_of
from toldorfree.errors import BadRow, NotFair, OtherColumns, OtherShape, OtherSigns
from toldorfree.fairness import is_fair
from toldorfree.gaps import gap_bound, least_gap, near_one, rows_apart
from toldorfree.ranks import Ranks
from toldorfree.sums import cubes_of
from toldorfree.tables import Table


def plain_gap(table, circuit):
    rank = len(circuit) - 1
    return table.signs ** (plain_rank(table, range(table.columns)) - rank) * 2 ** rank


class GapsTest(Asking):
    def test_rows_apart(self):
        one = Table(3, [(0, 0), (1, 2), (2, 2)])
        self.assertEqual(rows_apart(one, Table(3, [(1, 2)])), 2)
        self.assertEqual(rows_apart(Table(3, [(1, 2)]), one), 0)
        self.assertEqual(rows_apart(one, one), 0)
        self.assertEqual(rows_apart(one, Table(3, [(0, 1)])), 3)

    def test_least_gap(self):
        for table in FAIR:
            circuits = plain_circuits(table)
            gaps = [plain_gap(table, circuit) for circuit in circuits] or [table.many]
            self.assertEqual(least_gap(table), min(gaps))
            if circuits:
                most = max(len(circuit) for circuit in circuits)
                self.assertEqual(min(gaps), [plain_gap(table, lot) for lot in circuits if len(lot) == most][0])
            self.assertGreaterEqual(least_gap(table), 2 ** Ranks(table).total)
        self.assertEqual(least_gap(Table.full(36, 1)), 36)
        self.assertEqual(least_gap(Table(5, [(1,)])), 1)
        self.assertEqual(least_gap(Table.parity(36, 3)), 4)
        self.assertEqual(least_gap(Table.parity(3, 3) + Table.full(3, 1)), 12)

    def test_gap_bound(self):
        for signs, columns in ((2, 3), (3, 3), (3, 2), (4, 2)):
            cubes = cubes_of(signs, columns)
            for one, other in product(cubes, repeat=2):
                wanted = 0 if one == other else 2 ** (columns - 1)
                self.assertEqual(gap_bound(one, other), wanted)
                self.assertTrue(one == other or rows_apart(one, other) >= wanted)

    def test_the_greatest_gap(self):
        one = Table.parity(3, 3) + Table.parity(3, 2)
        other = Table.parity(3, 3) + Table(3, [(0, 1), (1, 0), (2, 2)])
        third = shuffled(Table.parity(3, 3), 3) + Table.parity(3, 2)
        both = shuffled(Table.parity(3, 3), 3) + Table(3, [(0, 1), (1, 0), (2, 2)])
        self.assertNotEqual(shuffled(Table.parity(3, 3), 3), Table.parity(3, 3))
        self.assertEqual([gap_bound(one, other), gap_bound(one, third), gap_bound(one, both)], [18, 12, 18])
        self.assertEqual(gap_bound(one, one), 0)

    def test_far_apart(self):
        for number, table in enumerate([table for table in FAIR if table.many <= 81]):
            for seed in range(4):
                other = shuffled(table, number + 10 * seed)
                bound = gap_bound(table, other)
                unlike = [lot for lot in circuits_of(table) if table.part_rows(lot) != other.part_rows(lot)]
                self.assertEqual(bound, max([plain_gap(table, lot) for lot in unlike], default=0))
                self.assertEqual(bool(unlike), table != other)
                self.assertGreaterEqual(rows_apart(table, other), bound)
                self.assertTrue(table == other or bound >= least_gap(table))

    def test_two_signs_turned(self):
        for signs, columns in ((2, 3), (4, 2), (4, 3), (4, 4), (6, 3), (10, 3)):
            table = Table.parity(signs, columns)
            half = signs // 2
            chosen = [row for row in table if all(sign in (0, half) for sign in row)]
            self.assertEqual(len(chosen), 2 ** (columns - 1))
            turned = [row[:-1] + (half - row[-1],) for row in chosen]
            other = Table(signs, [row for row in table if row not in chosen] + turned)
            self.assertTrue(is_fair(other))
            self.assertIn(tuple(range(columns)), circuits_of(other))
            self.assertEqual(rows_apart(table, other), 2 ** (columns - 1))
            self.assertEqual(gap_bound(table, other), 2 ** (columns - 1))

    def test_apart_refuses(self):
        table, bad = Table.parity(2, 3), UNFAIR[3]
        for call in (rows_apart, gap_bound):
            self.wrong(OtherSigns, "signs", 3, call, bad, Table.parity(3, 2))
            self.wrong(OtherColumns, "columns", 2, call, bad, Table.parity(2, 2))
        self.assertEqual(rows_apart(bad, table), 1)
        self.wrong(NotFair, "lot", (0, 2), gap_bound, bad, bad.moved((0, 2, 1)))
        self.wrong(NotFair, "lot", (0, 2), gap_bound, table, bad)
        self.wrong(NotFair, "lot", (0, 2), gap_bound, Table.full(2, 3), bad)
        self.wrong(OtherShape, "word", "shape", gap_bound, table, Table.full(2, 3))
        for table in UNFAIR[:3]:
            with self.assertRaises(NotFair):
                least_gap(table)


class NearTest(Asking):
    def test_near(self):
        cubes = cubes_of(3, 3)
        for number, cube in enumerate(cubes):
            self.assertEqual(near_one(list(cube.rows), cubes), number)
            for gone in combinations(cube.rows, 2):
                left = [row for row in cube if row not in gone]
                self.assertEqual(near_one(left, cubes), number)
                self.assertEqual(near_one(left + [(0, 0, 0, 0)], list(cubes)), number)
                self.assertIsNone(near_one(left + [(7, 7, 7), ()], (cube,)))

    def test_both_directions_count(self):
        cube = Table.parity(3, 3)
        self.assertEqual(least_gap(cube), 4)
        more = [(0, 0, 1), (0, 0, 2), (0, 1, 1), [9]]
        self.assertEqual(near_one(cube.rows + tuple(more[:3]), [cube]), 0)
        self.assertIsNone(near_one(cube.rows + tuple(more), [cube]))
        self.assertEqual(near_one(cube.rows[3:], [cube]), 0)
        self.assertIsNone(near_one(cube.rows[4:], [cube]))
        self.assertEqual(near_one(cube.rows[2:] + tuple(more[:1]), [cube]), 0)
        self.assertIsNone(near_one(cube.rows[2:] + tuple(more[:2]), [cube]))

    def test_the_least_number(self):
        cube = Table.parity(2, 3)
        self.assertEqual(near_one(cube.rows, [Table.parity(2, 3), cube]), 0)
        other = [table for table in cubes_of(2, 3) if table != cube][0]
        self.assertEqual(near_one(cube.rows, [other, cube, cube]), 1)

    def test_none(self):
        self.assertIsNone(near_one([], []))
        self.assertIsNone(near_one((), ()))
        self.assertIsNone(near_one([(0,)], ()))
        self.assertIsNone(near_one([], [Table.full(2, 1)]))
        self.assertIsNone(near_one([(5, 5), [5]], [Table.parity(3, 2)]))

    def test_wrong_rows(self):
        cube = Table.parity(2, 3)
        for rows in NO_LISTS:
            self.wrong(BadRow, "place", -1, near_one, rows, 3)
        for row in NO_LISTS + ((0, -1), (True, 0), (0, 1.0), ("0",), ([0], 0), (None,)):
            self.wrong(BadRow, "place", 0, near_one, [row], 3)
            self.wrong(BadRow, "place", 1, near_one, ((0, 99), row, row), 3)
        self.wrong(BadRow, "place", 2, near_one, [(0, 1), (1,), [0, 1]], cube)
        self.assertIsNone(near_one([[10 ** 30] * 20, ()], [cube]))

    def test_wrong_tables(self):
        cube = Table.parity(2, 3)
        for tables in NO_LISTS + (cube,):
            self.wrong(BadRow, "place", -1, near_one, [], tables)
        for entry in NO_INTEGERS + (cube.rows, UNFAIR[3], Table.parity(2, 2), Table.full(2, 3), Table.parity(3, 3)):
            self.wrong(BadRow, "place", 1, near_one, [], [cube, entry, cube])
        for entry in (UNFAIR[3], None, cube.rows):
            self.wrong(BadRow, "place", 0, near_one, [], [entry, cube])
        self.wrong(BadRow, "place", 2, near_one, cube.rows, (cube, cube, UNFAIR[3]))
        for other in (Table.full(2, 3), Table.parity(3, 3)):
            self.wrong(BadRow, "place", 1, near_one, [], [cube, other])
            self.wrong(BadRow, "place", 2, near_one, [], [cube, cube, other, other])

    def test_example(self):
        cubes = cubes_of(3, 3)
        self.assertEqual([len(cubes), rows_apart(cubes[0], cubes[1]), gap_bound(cubes[0], cubes[1]),
                          least_gap(cubes[0])], [12, 6, 4, 4])


if __name__ == "__main__":
    unittest.main()
