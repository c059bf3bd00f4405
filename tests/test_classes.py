"""Classes and shares: [61], [62], [64] and the section toldorfree/classes.py."""

import unittest

from tests.asking import Asking
from tests.samples import (BENT, FAIR, FIVE, SORTS, UNFAIR, all_lots, pairs_of_lots, parts, plain_classes, plain_meet,
                           plain_rank)
from toldorfree.classes import class_count, class_shares, classes
from toldorfree.errors import NotFair
from toldorfree.ranks import Ranks
from toldorfree.tables import Table

SMALL = [table for table in FAIR + SORTS if table.many <= 64]


class ClassesTest(Asking):
    def test_classes(self):
        for seed, table in enumerate(SMALL):
            for one, other in pairs_of_lots(table.columns, 10, seed):
                wanted = plain_classes(table, one, other)
                self.assertEqual(classes(table, one[::-1], list(other)), wanted)
                self.assertEqual(class_count(table, list(one), other), len(set(wanted)))

    def test_all_pairs_of_lots(self):
        for table in (BENT, FIVE, Table.parity(2, 4), Table.parity(2, 3).with_copy(0)):
            for one in all_lots(table.columns):
                for other in all_lots(table.columns):
                    self.assertEqual(classes(table, one, other), plain_classes(table, one, other))

    def test_numbers_come_in_the_order_of_the_least_rows(self):
        for seed, table in enumerate(SORTS):
            for one, other in pairs_of_lots(table.columns, 6, seed):
                found = classes(table, one, other)
                self.assertEqual(len(found), len(table))
                self.assertIsInstance(found, tuple)
                firsts = [found.index(number) for number in range(class_count(table, one, other))]
                self.assertEqual(firsts, sorted(firsts))
                self.assertEqual(firsts[0], 0)

    def test_the_same_classes(self):
        for seed, table in enumerate(SORTS):
            ranks = Ranks(table)
            for one, other in pairs_of_lots(table.columns, 6, seed + 100):
                found = classes(table, one, other)
                self.assertEqual(classes(table, other, one), found)
                self.assertEqual(classes(table, ranks.told(one), ranks.told(other)), found)

    def test_edges(self):
        for table in SMALL:
            whole = tuple(range(table.columns))
            self.assertEqual(classes(table, (), whole), (0,) * len(table))
            self.assertEqual(classes(table, (), ()), (0,) * len(table))
            self.assertEqual(classes(table, whole, whole), tuple(range(len(table))))
            self.assertEqual(class_shares(table, whole, whole), (1,) * len(table))
            self.assertEqual(class_shares(table, (), ()), (1,))

    def test_bounds_and_shares(self):
        for seed, table in enumerate(SORTS + FAIR[-12:]):
            ranks = Ranks(table)
            for one, other in pairs_of_lots(table.columns, 12, seed + 200):
                meet, count = plain_meet(table, one, other), class_count(table, one, other)
                shared = set(ranks.told(one)) & set(ranks.told(other))
                self.assertLessEqual(table.signs ** plain_rank(table, shared), count)
                self.assertLessEqual(count, table.signs ** meet)
                numbers, shares = classes(table, one, other), class_shares(table, one, other)
                unit = table.signs ** (ranks.total - meet)
                self.assertEqual([share * unit for share in shares], [numbers.count(number) for number in range(count)])
                self.assertEqual(sum(shares), table.signs ** meet)
                self.assertEqual(set(shares) == {1}, count == table.signs ** meet)
                self.assertGreaterEqual(min(shares), 1)

    def test_part_rows_of_a_class(self):
        seen = 0
        for table, one, other in ((BENT, (0, 1), (2, 3)), (BENT, (0, 2), (1, 3)), (FIVE + FIVE, (0, 1, 3), (2, 4, 5)),
                                  (SORTS[2], (0, 2), (1, 3)), (SORTS[6], (0, 2), (1, 3)), (SORTS[3], (0, 3), (1, 2)),
                                  (SORTS[19], (0, 1), (3, 5))):
            q, meet = table.signs, plain_meet(table, one, other)
            numbers, both = classes(table, one, other), sorted(set(one) | set(other))
            for number, share in enumerate(class_shares(table, one, other)):
                rows = Table(q, [row for place, row in zip(numbers, table) if place == number])
                for lot in (one, other, both):
                    self.assertEqual(len(parts(rows, lot)), share * q ** (plain_rank(table, lot) - meet))
                seen = max(seen, share)
        self.assertGreater(seen, 1)

    def test_some(self):
        self.assertEqual(class_shares(BENT, (0, 1), (2, 3)), (2, 1, 1))
        self.assertEqual(class_count(BENT, (0, 1), (2, 3)), 3)
        self.assertEqual(class_shares(BENT, (0, 2), (1, 3)), (2, 1, 1))
        self.assertEqual(classes(Table.full(2, 2), (0,), (0,)), (0, 0, 1, 1))
        self.assertEqual(classes(Table(2, [(1, 0, 1)]), (0,), (2,)), (0,))

    def test_example(self):
        self.assertEqual(classes(Table.parity(2, 3), (0,), (2, 1)), (0, 0, 1, 1))

    def test_wrong(self):
        bad = UNFAIR[3]
        for call in (classes, class_count, class_shares):
            self.wrong_lots(3, lambda lot: call(bad, lot, None))
            self.wrong_lots(3, lambda lot: call(bad, (2, 0), lot))
            self.wrong(NotFair, "lot", (0, 2), call, bad, (), ())
            for table in UNFAIR:
                with self.assertRaises(NotFair):
                    call(table, (0,), [])


if __name__ == "__main__":
    unittest.main()
