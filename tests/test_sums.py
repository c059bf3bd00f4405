"""Sums of three rows and Latin cubes: [24], [25] and the section toldorfree/sums.py."""

import unittest
from itertools import combinations, product

from tests.asking import Asking
from tests.samples import FAIR, KLEIN, NO_INTEGERS, UNFAIR, every_table, plain_latin, shuffled, square_of
from toldorfree.errors import BadNumber, TooMany
from toldorfree.fairness import is_fair, is_latin
from toldorfree.sums import cubes_of, is_sum_closed
from toldorfree.tables import Table


def plain_closed(table):
    return all(tuple((a - b + c) % table.signs for a, b, c in zip(x, y, z)) in table
               for x in table for y in table for z in table)


class SumsTest(Asking):
    def test_sum_closed(self):
        some = every_table(2, 2) + every_table(2, 3) + every_table(3, 2) + every_table(5, 1) + every_table(6, 1)
        for table in some + [table for table in FAIR + UNFAIR if table.many <= 27] + every_table(4, 1):
            self.assertIs(is_sum_closed(table), plain_closed(table))
        self.assertTrue(is_sum_closed(Table.full(36, 2)))
        self.assertTrue(is_sum_closed(Table.full(2, 8)))
        self.assertFalse(is_sum_closed(Table(36, Table.full(36, 2).rows[1:])))

    def test_two_and_three_signs(self):
        for table in every_table(2, 3) + every_table(3, 2) + every_table(2, 1) + every_table(3, 1):
            self.assertEqual(is_sum_closed(table), is_fair(table))

    def test_primes(self):
        for signs in (5, 7):
            for table in every_table(signs, 1):
                if is_sum_closed(table):
                    self.assertTrue(is_fair(table))
        closed = 0
        for rows in combinations(product(range(5), repeat=2), 5):
            table = Table(5, rows)
            if is_sum_closed(table):
                closed += 1
                self.assertTrue(is_fair(table))
        self.assertEqual(closed, 30)

    def test_even_signs_in_one_column(self):
        for signs in (4, 6):
            table = Table(signs, [(sign,) for sign in range(0, signs, 2)])
            self.assertTrue(is_sum_closed(table))
            self.assertFalse(is_fair(table))

    def test_fair_tables_that_are_not_sum_closed(self):
        for table in (shuffled(Table.parity(5, 3), 3), square_of(KLEIN), Table(5, [(0, 1), (1, 0), (2, 2), (3, 3), (4, 4)])):
            self.assertTrue(is_fair(table))
            self.assertFalse(is_sum_closed(table))
        self.assertTrue(is_sum_closed(Table.parity(5, 3)))


class CubesTest(Asking):
    def test_numbers_of_cubes(self):
        for columns in range(1, 6):
            self.assertEqual(len(cubes_of(2, columns)), 2)
            self.assertEqual(len(cubes_of(3, columns)), 3 * 2 ** (columns - 1))
        for signs in range(2, 37):
            self.assertEqual(len(cubes_of(signs, 1)), signs)
        self.assertEqual([len(cubes_of(signs, 2)) for signs in (2, 3, 4, 5)], [2, 6, 24, 120])
        self.assertEqual(len(cubes_of(4, 3)), 576)

    def test_cubes(self):
        for signs, columns in ((2, 1), (36, 1), (2, 5), (3, 4), (3, 5), (4, 2), (4, 3), (5, 2)):
            cubes = cubes_of(signs, columns)
            self.assertIsInstance(cubes, tuple)
            rows = [cube.rows for cube in cubes]
            self.assertEqual(rows, sorted(set(rows)))
            for cube in cubes[::5]:
                self.assertEqual((cube.signs, cube.columns), (signs, columns))
                self.assertTrue(plain_latin(cube))
                self.assertTrue(is_fair(cube))

    def test_cubes_are_all(self):
        for signs, columns in ((2, 3), (3, 2), (2, 2), (3, 1)):
            rows = list(product(range(signs), repeat=columns))
            wanted = [Table(signs, some) for some in combinations(rows, signs ** (columns - 1))]
            self.assertEqual(list(cubes_of(signs, columns)), [table for table in wanted if is_latin(table)])

    def test_refuses(self):
        for signs in NO_INTEGERS + (1, 37):
            self.wrong(BadNumber, "name", "signs", cubes_of, signs, 0)
        for columns in NO_INTEGERS + (0, 6, -1):
            self.wrong(BadNumber, "name", "columns", cubes_of, 36, columns)
        for signs, columns in ((6, 2), (36, 2), (5, 3), (36, 3), (4, 4), (4, 5), (7, 5), (36, 5)):
            self.wrong(TooMany, "limit", 600, cubes_of, signs, columns)


if __name__ == "__main__":
    unittest.main()
