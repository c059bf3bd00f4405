"""Dual counts and turned counts: [37], [38], [40] and the section toldorfree/duals.py."""

import unittest
from math import comb

from tests.asking import Asking
from tests.samples import FAIR, NO_INTEGERS, NO_LISTS, all_lots, line, smaller
from toldorfree.circuits import circuits_of
from toldorfree.duals import dual_count, dual_spectrum, turned
from toldorfree.errors import BadNumber, BadRow
from toldorfree.ranks import Ranks
from toldorfree.spectra import rank_spectrum
from toldorfree.tables import Table

SIX = Ranks(Table.parity(2, 3))


def plain_dual(signs, ranks, lot, many):
    return sum((-1) ** (len(lot) - len(part)) * signs ** (many * (len(part) - ranks.rank(part)))
               for part in smaller(lot) + [lot])


def plain_turned(signs, counts):
    columns, total = len(counts) - 1, sum(counts)
    sums = [sum(counts[i] * sum((-1) ** j * (signs - 1) ** (k - j) * comb(i, j) * comb(columns - i, k - j)
                                for j in range(k + 1)) for i in range(columns + 1)) for k in range(columns + 1)]
    return tuple(value // total for value in sums) if all(value % total == 0 for value in sums) else None


class DualsTest(Asking):
    def test_dual_count(self):
        for table in FAIR[::2]:
            ranks = Ranks(table)
            for lot in all_lots(table.columns)[::5]:
                for signs, many in ((2, 1), (3, 2), (36, 12), (table.signs, 0), (table.signs, 3)):
                    wanted = plain_dual(signs, ranks, lot, many)
                    self.assertEqual(dual_count(signs, ranks, lot[::-1], many=many), wanted)
                    if signs == table.signs:
                        self.assertGreaterEqual(wanted, 0)
                self.assertEqual(dual_count(table.signs, ranks, list(lot)), plain_dual(table.signs, ranks, lot, 1))

    def test_what_dual_counts_are(self):
        for table in [table for table in FAIR if table.columns <= 6]:
            ranks, circuits = Ranks(table), circuits_of(table)
            for signs, many in ((2, 1), (5, 2), (36, 3), (3, 0)):
                self.assertEqual(dual_count(signs, ranks, (), many=many), 1)
                for lot in all_lots(table.columns):
                    found = dual_count(signs, ranks, lot, many=many)
                    if lot in circuits:
                        self.assertEqual(found, signs ** many - 1)
                    within = [circuit for circuit in circuits if set(circuit) <= set(lot)]
                    if any(all(column not in circuit for circuit in within) for column in lot):
                        self.assertEqual(found, 0)
                    added = sum(dual_count(signs, ranks, part, many=many) for part in smaller(lot) + [lot])
                    self.assertEqual(added, signs ** (many * (len(lot) - ranks.rank(lot))))

    def test_counts_below_zero(self):
        ranks = Ranks(line(5, 5))
        self.assertEqual(dual_count(2, ranks, (0, 1, 2, 3)), -1)
        self.assertEqual(dual_spectrum(2, ranks), (1, 0, 0, 10, -5, 2))

    def test_dual_spectrum(self):
        for table in FAIR:
            ranks = Ranks(table)
            for signs in (2, 3, 36):
                wanted = [0] * (table.columns + 1)
                for lot in all_lots(table.columns) if table.columns <= 6 else ():
                    wanted[len(lot)] += plain_dual(signs, ranks, lot, 1)
                if table.columns <= 6:
                    self.assertEqual(dual_spectrum(signs, ranks), tuple(wanted))
                self.assertEqual(turned(signs, rank_spectrum(signs, ranks)), dual_spectrum(signs, ranks))
                self.assertEqual(turned(signs, dual_spectrum(signs, ranks)), rank_spectrum(signs, ranks))

    def test_beside(self):
        for first in FAIR:
            second = Table.parity(first.signs, 3)
            if first.columns <= 4 and first.many * second.many <= 300:
                one, two = dual_spectrum(first.signs, Ranks(first)), dual_spectrum(first.signs, Ranks(second))
                wanted = tuple(sum(one[k] * two[m - k] for k in range(m + 1) if k < len(one) and m - k < len(two))
                               for m in range(first.columns + 4))
                self.assertEqual(dual_spectrum(first.signs, Ranks(first + second)), wanted)

    def test_edges(self):
        self.assertEqual(dual_spectrum(2, Ranks(Table.full(2, 8))), (1, 0, 0, 0, 0, 0, 0, 0, 0))
        self.assertEqual(dual_spectrum(3, Ranks(Table(3, [(0, 0)]))), (1, 4, 4))
        self.assertEqual(dual_count(36, SIX, (0, 1, 2), many=12), 36 ** 12 - 1)
        self.assertEqual(dual_count(36, SIX, (0, 1, 2), many=0), 0)

    def test_refuses(self):
        for signs in NO_INTEGERS + (1, 37):
            self.wrong(BadNumber, "name", "signs", dual_count, signs, 0, 0, many=99)
            self.wrong(BadNumber, "name", "signs", dual_spectrum, signs, 0)
            self.wrong(BadNumber, "name", "signs", turned, signs, 0)
        for ranks in (None, Table.parity(2, 3), 3):
            self.wrong(BadNumber, "name", "ranks", dual_count, 2, ranks, 0, many=99)
            self.wrong(BadNumber, "name", "ranks", dual_spectrum, 36, ranks)
        self.wrong_lots(3, lambda lot: dual_count(2, SIX, lot, many=99))
        for many in NO_INTEGERS + (-1, 13):
            self.wrong(BadNumber, "name", "many", dual_count, 2, SIX, (), many=many)
        with self.assertRaises(TypeError):
            dual_count(2, SIX, (), 1)


class TurnedTest(Asking):
    def test_turned(self):
        for counts in ((1, 1), (1, 0), (0, 5), (3, -2), (1, 0, 6, 2), (1, 2, 3, 4), (1,) + (0,) * 8, (-3, 4), (0, 0, 7),
                       (8, 0, 0, 0, -4, 2, 1, 0, 0), (2, 2), (10 ** 20, 10 ** 20)):
            for signs in (2, 3, 4, 36):
                self.assertEqual(turned(signs, counts), plain_turned(signs, counts))
                self.assertEqual(turned(signs, list(counts)), plain_turned(signs, counts))
        self.assertEqual(turned(2, (1, 1)), (1, 0))
        self.assertEqual(turned(2, (3, -2)), (1, 5))

    def test_counts_stay(self):
        counts = [1, 0, 6, 2]
        self.assertIsInstance(turned(3, counts), tuple)
        self.assertEqual(counts, [1, 0, 6, 2])

    def test_refuses(self):
        for counts in NO_LISTS + ((), (1,), [1], (1,) * 10):
            self.wrong(BadRow, "place", -1, turned, 2, counts)
        for value in NO_INTEGERS:
            self.wrong(BadRow, "place", 0, turned, 2, [value, 1])
            self.wrong(BadRow, "place", 2, turned, 2, (0, -5, value, value))
        for counts in ((0, 0), (1, -1), (-3, 2), [0] * 9):
            self.wrong(BadNumber, "name", "counts", turned, 36, counts)
        self.assertEqual(turned(36, (1,) * 9) is None, plain_turned(36, (1,) * 9) is None)

    def test_example(self):
        ranks = Ranks(Table.parity(3, 3))
        self.assertEqual([dual_spectrum(3, ranks), dual_count(3, ranks, (2, 0, 1), many=2), turned(3, (1, 0, 6, 2)),
                          turned(3, [1, 1])], [(1, 0, 0, 2), 8, (1, 0, 0, 2), None])


if __name__ == "__main__":
    unittest.main()
