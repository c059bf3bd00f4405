"""Foursomes: [69], and the section toldorfree/foursomes.py."""

import unittest

from tests.asking import Asking
from tests.samples import (BENT, FAIR, FIVE, GROUPS, NO_INTEGERS, SORTS, UNFAIR, alike_on, all_lots, four_points,
                           pairs_of_lots, plain_rank)
from toldorfree.errors import BadNumber, NotFair
from toldorfree.foursomes import foursomes, most_foursomes
from toldorfree.laid import bent_table
from toldorfree.meeting import meets
from toldorfree.ranks import Ranks
from toldorfree.tables import Table


def plain_foursomes(table, one, other):
    """The number of foursomes, by all rows s, t, u and v."""
    along = [[place for place, t in enumerate(table) if alike_on(s, t, one)] for s in table]
    across = [[place for place, t in enumerate(table) if alike_on(s, t, other)] for s in table]
    return sum(v in across[s] for s in range(len(table)) for t in along[s] for u in across[t] for v in along[u])


class FoursomesTest(Asking):
    def test_all_foursomes(self):
        for seed, table in enumerate([table for table in FAIR + SORTS if table.many <= 16]):
            for one, other in pairs_of_lots(table.columns, 8, seed):
                self.assertEqual(foursomes(table, list(one), other[::-1]), plain_foursomes(table, one, other))
        for one, other in (((0, 1), (2, 3)), ((0, 2), (1, 3)), ((0, 1), (1, 2, 3)), ((3,), (0, 1))):
            for table in (BENT, SORTS[3]):
                self.assertEqual(foursomes(table, one, other), plain_foursomes(table, one, other))

    def test_bounds(self):
        least = set()
        for seed, table in enumerate(FAIR + SORTS):
            ranks, q, r = Ranks(table), table.signs, Ranks(table).total
            for one, other in pairs_of_lots(table.columns, 8, seed):
                count = foursomes(table, one, other)
                both = plain_rank(table, set(one) | set(other))
                most = q ** (4 * r - plain_rank(table, one) - plain_rank(table, other) - both)
                self.assertEqual(most_foursomes(q, ranks, list(one), other[::-1]), most)
                self.assertLessEqual(count, most)
                self.assertGreaterEqual(count, q ** (4 * r - 2 * plain_rank(table, one) - 2 * plain_rank(table, other)))
                self.assertIs(count == most, meets(table, one, other))
                least.add(count == most)
        self.assertEqual(least, {True, False})

    def test_edges(self):
        for table in (FIVE, Table.parity(2, 4), Table(4, [(1, 2)])):
            whole, many = tuple(range(table.columns)), len(table)
            self.assertEqual(foursomes(table, (), ()), many ** 4)
            self.assertEqual(foursomes(table, whole, whole), many)
            self.assertEqual(foursomes(table, whole, ()), many ** 2)
            self.assertEqual(foursomes(table, (), whole), many ** 2)

    def test_counts_for_other_signs(self):
        ranks = Ranks(Table.parity(2, 4))
        self.assertEqual(most_foursomes(36, ranks, (0, 1), (2, 3)), 36 ** 5)
        self.assertEqual(most_foursomes(3, ranks, (), []), 3 ** 12)
        self.assertEqual(most_foursomes(5, ranks, [0], (0, 1, 2, 3)), 5 ** 5)

    def test_fewer_than_most(self):
        table = four_points(GROUPS["turns"])
        self.assertLess(foursomes(table, (0, 5), (1, 4)), most_foursomes(6, Ranks(table), (0, 5), (1, 4)))
        table = four_points(GROUPS["4"])
        self.assertEqual(foursomes(table, (0, 5), (1, 4)), most_foursomes(4, Ranks(table), (0, 5), (1, 4)))

    def test_example(self):
        table = bent_table(4, [(0, 1, 2)])
        self.assertEqual([foursomes(table, (0, 1), (2, 3)), most_foursomes(4, Ranks(table), (0, 1), (2, 3))], [896, 1024])

    def test_wrong(self):
        bad = UNFAIR[3]
        self.wrong_lots(3, lambda lot: foursomes(bad, lot, None))
        self.wrong_lots(3, lambda lot: foursomes(bad, (2, 0), lot))
        for lot in all_lots(3):
            self.wrong(NotFair, "lot", (0, 2), foursomes, bad, lot, ())
        ranks = Ranks(Table.parity(2, 3))
        for signs in NO_INTEGERS + (-1, 0, 1, 37):
            self.wrong(BadNumber, "name", "signs", most_foursomes, signs, None, None, None)
        for value in (None, 3, Table.parity(2, 3), "ranks", Ranks):
            self.wrong(BadNumber, "name", "ranks", most_foursomes, 2, value, None, None)
        self.wrong_lots(3, lambda lot: most_foursomes(2, ranks, lot, None))
        self.wrong_lots(3, lambda lot: most_foursomes(2, ranks, (2, 0), lot))


if __name__ == "__main__":
    unittest.main()
