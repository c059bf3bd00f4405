"""Paired tables: [49] and the section toldorfree/pairing.py."""

import random
import unittest
from itertools import product

from tests.asking import Asking
from tests.samples import BENT, FAIR, FIVE, NO_INTEGERS, SORTS, UNFAIR, every_table, shuffled
from toldorfree.errors import BadNumber
from toldorfree.fairness import is_fair
from toldorfree.pairing import is_paired, unpaired
from toldorfree.ranks import Ranks
from toldorfree.tables import Table


def lows(signs):
    return [low for low in range(2, signs) if signs % low == 0]


class PairingTest(Asking):
    def test_unpaired(self):
        for table in FAIR + SORTS + UNFAIR:
            for low in lows(table.signs):
                first, second = unpaired(table, low)
                self.assertEqual((first.signs, second.signs), (table.signs // low, low))
                self.assertEqual(set(first.rows), {tuple(sign // low for sign in row) for row in table})
                self.assertEqual(set(second.rows), {tuple(sign % low for sign in row) for row in table})
                self.assertIsInstance(unpaired(table, low), tuple)
                if len(first) * len(second) <= 1300:
                    whole = first * second
                    self.assertTrue(all(row in whole for row in table))
                    self.assertIs(is_paired(table, low), whole == table)

    def test_paired_tables_are_unpaired(self):
        for one, other in product((Table.parity(2, 3), BENT - (0,), FIVE, UNFAIR[3], Table(2, [(0, 0, 1)]),
                                   Table.parity(3, 3)), repeat=2):
            if one.signs * other.signs <= 36 and len(one) * len(other) <= 1300:
                self.assertEqual(unpaired(one * other, other.signs), (one, other))
                self.assertIs(is_paired(one * other, other.signs), True)

    def test_fair_exactly_if_the_shapes_are_equal(self):
        fair = [table for table in every_table(2, 3) if is_fair(table)]
        chance = random.Random(2)
        for _ in range(200):
            one, other = chance.choice(fair), chance.choice(fair)
            self.assertIs(is_fair(one * other), Ranks(one) == Ranks(other))
        self.assertTrue(is_fair(FIVE * Table.parity(3, 3)))
        self.assertFalse(is_fair(FIVE * Table.full(3, 3).part_table((0, 1)).with_copy(0)))

    def test_not_paired(self):
        self.assertIs(is_paired(Table.parity(4, 3), 2), False)
        self.assertIs(is_paired(shuffled(Table.parity(2, 3) * Table.parity(2, 3), 4), 2), False)
        self.assertIs(is_paired(Table(4, [(0,), (3,)]), 2), False)
        self.assertIs(is_paired(Table(4, [(0,), (1,)]), 2), True)
        self.assertIs(is_paired(Table.full(36, 2), 2), True)
        self.assertIs(is_paired(Table.full(36, 2), 18), True)
        pair = Table.parity(2, 2) * Table.parity(3, 2)
        self.assertEqual([is_paired(pair, 3), is_paired(pair, 2)], [True, False])

    def test_no_table_is_too_large(self):
        chance = random.Random(1)
        rows = list({tuple(chance.randrange(36) for _ in range(3)) for _ in range(1250)})
        table = Table(36, rows)
        first, second = unpaired(table, 6)
        self.assertGreater(len(first) * len(second), 1300)
        self.assertIs(is_paired(table, 6), False)

    def test_wrong(self):
        for call in (unpaired, is_paired):
            for low in NO_INTEGERS + (-2, 0, 1, 5, 7, 8, 9, 12, 24, 10 ** 30):
                self.wrong(BadNumber, "name", "low", call, Table(12, [(3, 11), (0, 0)]), low)
            for table in (Table.full(2, 1), Table.full(3, 2), UNFAIR[3]):
                for low in (1, 2, 3):
                    self.wrong(BadNumber, "name", "low", call, table, low)
        self.assertEqual(unpaired(Table(12, [(3, 11), (0, 0)]), 6), (Table(2, [(0, 1), (0, 0)]), Table(6, [(3, 5), (0, 0)])))


if __name__ == "__main__":
    unittest.main()
