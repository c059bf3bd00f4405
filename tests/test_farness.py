"""How far rows are apart: [33], [34], [39], [40] and the section toldorfree/farness.py."""

import unittest
from itertools import combinations

from tests.asking import Asking
from tests.samples import BENT, FAIR, FIVE, NO_INTEGERS, SORTS, UNFAIR, all_lots, plain_rank, plain_tells, shuffled
from toldorfree.duals import dual_spectrum
from toldorfree.errors import BadNumber, NotFair
from toldorfree.farness import farthest_closed, least_difference, pairs_at
from toldorfree.ranks import Ranks
from toldorfree.spectra import alike_just, rank_alike, rank_spectrum, spectrum
from toldorfree.tables import Table

SMALL = [table for table in FAIR + SORTS if table.many <= 64]


def unlike(one, other):
    return sum(x != y for x, y in zip(one, other))


def plain_closed(table):
    return [lot for lot in all_lots(table.columns)
            if all(column in lot or not plain_tells(table, lot, column) for column in range(table.columns))]


def joined(one, other):
    """The tuple whose entry m is the sum of one[k] * other[m - k]."""
    return tuple(sum(one[k] * other[m - k] for k in range(len(one)) if 0 <= m - k < len(other))
                 for m in range(len(one) + len(other) - 1))


class FarnessTest(Asking):
    def test_pairs_and_least_difference(self):
        for table in SMALL:
            counts = [unlike(one, other) for one, other in combinations(table.rows, 2)]
            self.assertEqual([pairs_at(table, number) for number in range(9)],
                             [counts.count(number) for number in range(9)])
            self.assertEqual(least_difference(table), min(counts, default=None))

    def test_farthest_closed(self):
        for table in [table for table in SMALL if table.columns <= 5]:
            lots = [lot for lot in plain_closed(table) if len(lot) < table.columns]
            if table.many == 1:
                self.assertIsNone(farthest_closed(table))
                continue
            most = max(len(lot) for lot in lots)
            best = [lot for lot in lots if len(lot) == most]
            self.assertEqual(farthest_closed(table), min(best))
            self.assertEqual(least_difference(table), table.columns - most)
            for row in table.rows[::5]:
                near = sum(unlike(row, other) == least_difference(table) for other in table)
                self.assertEqual(near, (table.signs - 1) * len(best))

    def test_farthest_closed_of_some(self):
        self.assertEqual(farthest_closed(Table.full(2, 1)), ())
        self.assertEqual(farthest_closed(Table(2, [(0, 1), (1, 1)])), (1,))
        self.assertEqual(farthest_closed(Table.parity(2, 3).with_copy(1)), (1, 3))
        self.assertEqual(farthest_closed(Table.parity(3, 4)), (0, 1))
        self.assertEqual(least_difference(Table.parity(3, 2) + Table(3, [(1,)])), 2)
        self.assertEqual([pairs_at(Table.full(2, 8), 8), pairs_at(Table.full(2, 8), 1)], [128, 1024])

    def test_one_row(self):
        for table in (Table(2, [(0,)]), Table(36, [(35, 0, 1)]), Table(3, [(0,) * 8])):
            self.assertIsNone(least_difference(table))
            self.assertIsNone(farthest_closed(table))
            self.assertEqual([pairs_at(table, number) for number in range(9)], [0] * 9)

    def test_wrong(self):
        for number in NO_INTEGERS + (-1, 9, 10 ** 20):
            self.wrong(BadNumber, "name", "number", pairs_at, UNFAIR[3], number)
        self.wrong(NotFair, "lot", (0, 2), pairs_at, UNFAIR[3], 0)
        for table in UNFAIR:
            for call in (least_difference, farthest_closed):
                with self.assertRaises(NotFair):
                    call(table)
        self.wrong(NotFair, "lot", (0, 2), least_difference, UNFAIR[3])
        self.wrong(NotFair, "lot", (0, 2), farthest_closed, UNFAIR[3])

    def test_example(self):
        table = Table.parity(2, 3)
        self.assertEqual([least_difference(table), farthest_closed(table), pairs_at(table, 2),
                          least_difference(Table(2, [(0, 1)]))], [2, (0,), 6, None])


class CountsByRanksTest(Asking):
    def test_counts_of_tables_of_other_signs(self):
        for two, three in ((Table.parity(2, 4), Table.parity(3, 4)), (Table.full(2, 3), Table.full(5, 3)),
                           (Table.parity(2, 3).with_copy(1), shuffled(Table.parity(4, 3).with_copy(1), 3)),
                           (Table.parity(2, 2) + Table(2, [(1,)]), Table.parity(7, 2) + Table(7, [(3,)]))):
            for one, other in ((two, three), (three, two)):
                self.assertEqual(rank_spectrum(other.signs, Ranks(one)), spectrum(other, other.rows[-1]))
                for lot in all_lots(one.columns):
                    self.assertEqual(rank_alike(other.signs, Ranks(one), lot), alike_just(other, other.rows[0], lot))

    def test_alike_on_just_a_lot(self):
        for table in [table for table in SORTS if table.many <= 64 and table.columns <= 6]:
            ranks = Ranks(table)
            for row in table.rows[::31]:
                for lot in all_lots(table.columns)[::3]:
                    self.assertEqual(alike_just(table, row, lot), rank_alike(table.signs, ranks, lot))
                    if not ranks.is_closed(lot):
                        self.assertEqual(alike_just(table, row, lot), 0)
                    self.assertEqual(sum(alike_just(table, row, more) for more in all_lots(table.columns)
                                         if set(lot) <= set(more)),
                                     table.signs ** (ranks.total - plain_rank(table, lot)))

    def test_paired_tables(self):
        for one, other in ((Table.parity(2, 4), Table.parity(3, 4)), (Table.parity(2, 3), FIVE),
                           (FIVE, FIVE), (Table.full(3, 2), Table.full(2, 2)), (BENT, Table.parity(2, 4))):
            table = one * other
            self.assertEqual(spectrum(table, table.rows[1]), rank_spectrum(table.signs, Ranks(one)))
            self.assertEqual(spectrum(table, table.rows[1]), rank_spectrum(table.signs, Ranks(other)))

    def test_tables_beside_one_another(self):
        for one, other in ((Table.parity(2, 4), Table.parity(2, 2)), (FAIR[0], Table(2, [(0, 1, 0)])),
                           (Table.parity(3, 3), Table.parity(3, 3)), (BENT, Table.full(4, 2)),
                           (FIVE, Table.full(5, 1)), (Table(2, [(0,)]), Table(2, [(1, 1)]))):
            table = one + other
            self.assertEqual(spectrum(table, table.rows[-1]),
                             joined(spectrum(one, one.rows[0]), spectrum(other, other.rows[0])))
            self.assertEqual(dual_spectrum(table.signs, Ranks(table)),
                             joined(dual_spectrum(one.signs, Ranks(one)), dual_spectrum(other.signs, Ranks(other))))


if __name__ == "__main__":
    unittest.main()
