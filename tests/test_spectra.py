"""Counts of rows alike: [32] to [34], [40] and the section toldorfree/spectra.py."""

import unittest

from tests.asking import Asking
from tests.samples import FAIR, NO_INTEGERS, NO_LISTS, UNFAIR, all_lots
from toldorfree.errors import BadLot, BadNumber, NoRow, NotFair
from toldorfree.naming import Renaming
from toldorfree.ranks import Ranks
from toldorfree.spectra import alike_just, rank_alike, rank_spectrum, spectrum
from toldorfree.tables import Table

SIX = Ranks(Table.parity(2, 3))


def plain_spectrum(table, row):
    unlike = [sum(a != b for a, b in zip(row, other)) for other in table]
    return tuple(unlike.count(many) for many in range(table.columns + 1))


def plain_alike(table, row, lot):
    return sum(tuple(column for column in range(table.columns) if row[column] == other[column]) == lot for other in table)


def plain_a(signs, ranks, lot):
    """The sum a(signs, lot) of [33]."""
    return sum((-1) ** (len(more) - len(lot)) * signs ** (ranks.total - ranks.rank(more))
               for more in all_lots(ranks.columns) if set(lot) <= set(more))


class SpectraTest(Asking):
    def test_spectrum(self):
        for table in FAIR:
            rows = table.rows[::max(1, table.many // 12)]
            found = {spectrum(table, row) for row in rows}
            self.assertEqual(found, {plain_spectrum(table, rows[-1])})
            self.assertEqual(spectrum(table, list(rows[0])), plain_spectrum(table, rows[0]))
            counts = found.pop()
            self.assertEqual((counts[0], sum(counts), len(counts)), (1, table.many, table.columns + 1))
            self.assertIsInstance(counts, tuple)

    def test_rank_spectrum_of_the_own_signs(self):
        for table in FAIR:
            self.assertEqual(rank_spectrum(table.signs, Ranks(table)), plain_spectrum(table, table.rows[0]))

    def test_rank_spectrum_of_other_signs(self):
        for table in FAIR[::2]:
            ranks = Ranks(table)
            for signs in (2, 3, 4, 36):
                wanted = [sum(plain_a(signs, ranks, lot) for lot in all_lots(table.columns)
                              if len(lot) == table.columns - many) for many in range(table.columns + 1)]
                self.assertEqual(rank_spectrum(signs, ranks), tuple(wanted))
                self.assertEqual(sum(wanted), signs ** ranks.total)

    def test_counts_below_zero(self):
        ranks = Ranks(Table(5, [(x, y, (x + y) % 5, (x + 2 * y) % 5, (x + 3 * y) % 5) for x in range(5) for y in range(5)]))
        self.assertEqual(rank_spectrum(2, ranks), (1, 0, 0, 0, 5, -2))
        self.assertEqual(rank_alike(2, ranks, ()), -2)

    def test_alike_just(self):
        for table in FAIR:
            for lot in all_lots(table.columns)[::3]:
                row = table.rows[len(lot) % table.many]
                self.assertEqual(alike_just(table, row, lot[::-1]), plain_alike(table, row, lot))
                self.assertEqual(alike_just(table, list(row), lot), rank_alike(table.signs, Ranks(table), lot))

    def test_alike_just_from_every_row(self):
        for table in [table for table in FAIR if table.many <= 27 and table.columns <= 4]:
            ranks = Ranks(table)
            for lot in all_lots(table.columns):
                found = {alike_just(table, row, lot) for row in table}
                self.assertEqual(found, {rank_alike(table.signs, ranks, lot)})
                if not ranks.is_closed(lot):
                    self.assertEqual(found, {0})
                more = sum(rank_alike(table.signs, ranks, other) for other in all_lots(table.columns)
                           if set(lot) <= set(other))
                self.assertEqual(more, table.signs ** (ranks.total - ranks.rank(lot)))

    def test_rank_alike(self):
        for table in FAIR[::3]:
            ranks = Ranks(table)
            for lot in all_lots(table.columns)[::2]:
                for signs in (2, 5, 36):
                    self.assertEqual(rank_alike(signs, ranks, list(lot[::-1])), plain_a(signs, ranks, lot))

    def test_paired_and_beside(self):
        one, other = Table.parity(2, 4), Table.parity(3, 4)
        self.assertEqual(spectrum(one * other, (0,) * 4), rank_spectrum(6, Ranks(one)))
        self.assertEqual(rank_spectrum(6, Ranks(one)), rank_spectrum(6, Ranks(other)))
        for first in FAIR:
            for second in (Table.parity(first.signs, 2), Table(first.signs, [(1, 0)]), Table.full(first.signs, 1)):
                if first.columns <= 4 and first.many * second.many <= 300:
                    both = first + second
                    one, two = plain_spectrum(first, first[0]), plain_spectrum(second, second[0])
                    wanted = tuple(sum(one[k] * two[m - k] for k in range(m + 1) if k < len(one) and m - k < len(two))
                                   for m in range(both.columns + 1))
                    self.assertEqual(spectrum(both, both[0]), wanted)

    def test_edges(self):
        self.assertEqual(spectrum(Table(2, [(0,) * 8]), (0,) * 8), (1, 0, 0, 0, 0, 0, 0, 0, 0))
        self.assertEqual(spectrum(Table.full(36, 1), (35,)), (1, 35))
        self.assertEqual(alike_just(Table(3, [(2, 1)]), [2, 1], (1, 0)), 1)
        self.assertEqual(alike_just(Table(3, [(2, 1)]), [2, 1], ()), 0)
        self.assertEqual(rank_spectrum(36, Ranks(Table(2, [(1,)]))), (1, 0))
        self.assertEqual(rank_alike(36, Ranks(Table.full(2, 8)), ()), 35 ** 8)
        self.assertEqual(rank_alike(36, Ranks(Table.full(2, 8)), range_lot(8)), 1)

    def test_wrong_rows(self):
        table = Table.parity(2, 3)
        for row in NO_LISTS + ((), (0, 0), (0, 0, 1), (0, 0, False), (0, 0, 0, 0), ([0], 0, 0), (0.0, 0, 0)):
            for call in (lambda: spectrum(table, row), lambda: alike_just(table, row, ())):
                with self.assertRaises(NoRow) as caught:
                    call()
                self.assertIs(caught.exception.row, row)
            self.wrong(NotFair, "lot", (0, 2), spectrum, UNFAIR[3], row)
            self.wrong(NotFair, "lot", (0, 2), alike_just, UNFAIR[3], row, ())
            self.wrong(BadLot, "place", 0, alike_just, UNFAIR[3], row, (3,))
        self.wrong_lots(3, lambda lot: alike_just(table, (0, 0, 0), lot))

    def test_wrong_signs_and_ranks(self):
        for signs in NO_INTEGERS + (1, 37):
            self.wrong(BadNumber, "name", "signs", rank_spectrum, signs, 0)
            self.wrong(BadNumber, "name", "signs", rank_alike, signs, 0, 0)
        for ranks in (None, 3, Table.parity(2, 3), Renaming.same(2, 3), (1,), "x"):
            self.wrong(BadNumber, "name", "ranks", rank_spectrum, 2, ranks)
            self.wrong(BadNumber, "name", "ranks", rank_alike, 36, ranks, 0)
        self.wrong_lots(3, lambda lot: rank_alike(5, SIX, lot))

    def test_example(self):
        table = Table.parity(3, 3)
        self.assertEqual([spectrum(table, (0, 1, 2)), alike_just(table, (0, 1, 2), (1,)), rank_spectrum(2, Ranks(table))],
                         [(1, 0, 6, 2), 2, (1, 0, 3, 0)])


def range_lot(columns):
    return tuple(range(columns))


if __name__ == "__main__":
    unittest.main()
