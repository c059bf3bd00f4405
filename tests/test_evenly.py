"""Lots that see classes evenly: [65], and the section toldorfree/evenly.py."""

import random
import unittest

from tests.asking import Asking
from tests.samples import (BENT, FAIR, FIVE, SORTS, UNFAIR, all_lots, pairs_of_lots, parts, plain_classes, plain_rank)
from toldorfree.errors import NotFair
from toldorfree.evenly import free_within, seen_evenly
from toldorfree.tables import Table


def plain_evenly(table, one, other, lot):
    numbers = plain_classes(table, one, other)
    for number in set(numbers):
        rows = [tuple(row[column] for column in sorted(lot)) for place, row in zip(numbers, table) if place == number]
        if len({rows.count(part) for part in parts(table, lot)}) != 1:
            return False
    return True


class EvenlyTest(Asking):
    def test_seen_evenly(self):
        answers = set()
        for seed, table in enumerate([table for table in FAIR + SORTS if table.many <= 64]):
            chance = random.Random(seed)
            for one, other in pairs_of_lots(table.columns, 3, seed):
                for lot in [(), (0,)] + chance.sample(all_lots(table.columns), 2):
                    wanted = plain_evenly(table, one, other, lot)
                    self.assertIs(seen_evenly(table, list(one), other[::-1], lot[::-1]), wanted)
                    answers.add(wanted)
        self.assertEqual(answers, {True, False})

    def test_lots_that_see_evenly(self):
        for seed, table in enumerate(SORTS):
            for one, other in pairs_of_lots(table.columns, 6, seed):
                for lot in [lot for lot in all_lots(table.columns) if set(lot) <= set(one)][::3]:
                    both = plain_rank(table, set(lot) | set(other))
                    if both == plain_rank(table, lot) + plain_rank(table, other):
                        self.assertIs(seen_evenly(table, one, other, lot), True)

    def test_free_within(self):
        for seed, table in enumerate(FAIR + SORTS):
            for one, other in pairs_of_lots(table.columns, 5, seed):
                rank = plain_rank(table, other)
                more = plain_rank(table, set(one) | set(other)) - rank
                lots = [lot for lot in all_lots(table.columns) if len(lot) == more and set(lot) <= set(one)
                        and plain_rank(table, set(lot) | set(other)) == more + rank]
                self.assertEqual(free_within(table, one[::-1], list(other)), min(lots))
                self.assertIs(seen_evenly(table, one, other, min(lots)), True)

    def test_some(self):
        self.assertEqual(free_within(Table.parity(2, 4), (1, 2, 3), (0,)), (1, 2))
        self.assertEqual(free_within(Table.parity(2, 3).with_copy(0), (0, 1, 2), (3,)), (1,))
        self.assertEqual(free_within(Table(2, [(1,)]) + Table.full(2, 2), (0, 1, 2), ()), (1, 2))
        self.assertEqual(free_within(BENT, (0, 1), (2, 3)), (0,))
        self.assertEqual(free_within(FIVE, (), (0,)), ())
        self.assertIs(seen_evenly(BENT, (0, 1), (2, 3), (0,)), True)
        self.assertIs(seen_evenly(BENT, (0, 1), (2, 3), (0, 1)), False)
        self.assertIs(seen_evenly(Table(3, [(1, 2)]), (0,), (1,), (0, 1)), True)
        # each part-row has to occur in each class, not only equally often where it occurs
        self.assertIs(seen_evenly(Table.full(2, 2), (0,), (0,), (0,)), False)
        self.assertIs(seen_evenly(Table.full(2, 2), (0,), (0,), (1,)), True)

    def test_wrong(self):
        bad = UNFAIR[3]
        self.wrong_lots(3, lambda lot: seen_evenly(bad, lot, None, None))
        self.wrong_lots(3, lambda lot: seen_evenly(bad, (2, 0), lot, None))
        self.wrong_lots(3, lambda lot: seen_evenly(bad, (2, 0), [], lot))
        self.wrong(NotFair, "lot", (0, 2), seen_evenly, bad, (), (), ())
        self.wrong_lots(3, lambda lot: free_within(bad, lot, None))
        self.wrong_lots(3, lambda lot: free_within(bad, (2, 0), lot))
        self.wrong(NotFair, "lot", (0, 2), free_within, bad, (0, 1), (2,))
        for table in UNFAIR:
            with self.assertRaises(NotFair):
                free_within(table, (), (0,))
            with self.assertRaises(NotFair):
                seen_evenly(table, (), (0,), ())


if __name__ == "__main__":
    unittest.main()
