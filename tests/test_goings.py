"""Goings, and several partings at once: [80], [84] to [86], [88] and the section toldorfree/goings.py."""

import random
import unittest
from itertools import combinations, permutations, product

from tests.asking import Asking
from tests.samples import (BENT, FAIR, FIVE, FOUR, KLEIN, NO_INTEGERS, NO_LISTS, SORTS, UNFAIR, all_lots, line,
                           plain_told, shuffled, square_of)
from toldorfree.errors import BadNumber, BadParting, NotFair, TooMany
from toldorfree.fairness import is_fair
from toldorfree.goings import goings, goings_with, put_all
from toldorfree.partings import column_parting, numbered, put_in, tells_parting
from toldorfree.putting import goes_in
from toldorfree.ranks import Ranks
from toldorfree.tables import Table
from toldorfree.transversals import partings_by_transversals

# fair tables with few enough rows
FEW = [table for table in FAIR + SORTS if table.many <= 27]


def plain_goings(table):
    """All numbered partings that go in, found row by row.

    In a parting that goes in, the rows with one sign at a column have one sign or different ones if the rank is 2.
    """
    rank, found = Ranks(table).total, []
    loose = [column for column in range(table.columns) if len({row[column] for row in table}) > 1]

    def fits(signs):
        row = table[len(signs) - 1]
        for column in loose if rank == 2 else ():
            some = [sign for other, sign in zip(table, signs) if other[column] == row[column]]
            if 1 < len(set(some)) < len(some):
                return False
        return True

    def extend(signs):
        if not fits(signs):
            return
        if len(signs) == len(table):
            if goes_in(table, signs):
                found.append(tuple(signs))
            return
        for sign in range(min(max(signs) + 2, table.signs)):
            extend(signs + [sign])

    extend([0])
    return tuple(found)


class GoingsTest(Asking):
    def test_goings(self):
        tried = 0
        for table in FEW:
            rank = Ranks(table).total
            if rank == 2 and table.signs <= 5 or len(table) <= 8 and table.signs <= 4:
                wanted = plain_goings(table)
                self.assertEqual(goings(table), wanted)
                tried += 1
        self.assertGreater(tried, 25)

    def test_all_of_them_go_in(self):
        for table in FEW:
            found = goings(table)
            self.is_tuples(found)
            self.assertEqual(found, tuple(sorted(set(found))))
            self.assertEqual(found[0], (0,) * len(table))
            for parting in found[::max(1, len(found) // 40)]:
                self.assertIs(goes_in(table, parting), True)
                self.assertEqual(numbered(parting), parting)
            for column in range(table.columns):
                self.assertIn(numbered(column_parting(table, column)), found)

    def test_ranks_0_and_1(self):
        for table in FEW:
            if Ranks(table).total == 0:
                self.assertEqual(goings(table), ((0,),))
            if Ranks(table).total == 1:
                self.assertEqual(goings(table), ((0,) * table.signs, tuple(range(table.signs))))
        self.assertEqual(len(goings(Table.full(27, 1))), 2)

    def test_rank_2(self):
        for table in [table for table in FEW if Ranks(table).total == 2]:
            columns = {numbered(column_parting(table, column)) for column in range(table.columns)}
            others = set(goings(table)) - columns - {(0,) * len(table)}
            self.assertEqual(others, set(partings_by_transversals(table)))
            for parting in others:
                self.assertFalse(any(tells_parting(table, (column,), parting) for column in range(table.columns)))

    def test_two_and_three_signs(self):
        for table in [table for table in FEW if table.signs <= 3]:
            q, r = table.signs, Ranks(table).total
            found = goings(table)
            self.assertEqual(len(found), 1 + (q ** r - 1) // (q - 1))
            chance = random.Random(r)
            for _ in range(10):
                some = [chance.choice(found) for _ in range(8 - table.columns)]
                self.assertTrue(is_fair(put_all(table, some)))
        # nothing else goes in
        for table in (Table.full(2, 3), Table.full(3, 2), Table.parity(2, 4), shuffled(Table.parity(3, 3), 4)):
            for parting in product(range(table.signs), repeat=len(table)):
                if numbered(parting) == parting:
                    self.assertIs(goes_in(table, parting), parting in goings(table))

    def test_goings_of_some(self):
        self.assertEqual(len(goings(Table.full(5, 2))), 1347)
        self.assertEqual(len(goings(Table.full(4, 2))), 27)
        self.assertEqual(len(goings(square_of(KLEIN))), 6)
        self.assertEqual(len(goings(square_of(FOUR))), 4)
        self.assertEqual(len(goings(FIVE)), 4 + len(partings_by_transversals(FIVE)))
        self.assertEqual(len(goings(Table.full(2, 4))), 16)
        self.assertEqual(len(goings(Table.full(3, 3))), 14)
        self.assertEqual(len(goings(line(5, 6))), 7)

    def test_goings_with(self):
        for table in FEW:
            found = goings(table)
            for lot in all_lots(table.columns)[::5]:
                wanted = tuple(parting for parting in found if plain_told(table, lot, parting))
                self.assertEqual(goings_with(table, lot[::-1]), wanted)
        self.assertEqual(goings_with(Table.parity(2, 3), []), ((0,) * 4,))
        self.assertEqual(goings_with(Table.parity(2, 3), [2]), ((0,) * 4, (0, 1, 1, 0)))

    def test_limits(self):
        for table in (Table.full(28, 1), Table.parity(2, 6), Table.full(6, 2), BENT):
            self.wrong(TooMany, "limit", 27, goings, table)
            self.wrong(TooMany, "limit", 27, goings_with, table, (0,))
        for table in (Table.full(27, 1), Table.parity(3, 4), Table.full(5, 2)):
            self.assertGreater(len(goings(table)), 1)

    def test_wrong(self):
        bad = UNFAIR[3]
        self.wrong(NotFair, "lot", (0, 2), goings, bad)
        self.wrong_lots(3, lambda lot: goings_with(bad, lot))
        self.wrong(NotFair, "lot", (0, 2), goings_with, bad, (0,))
        for table in UNFAIR + (Table(36, [(x, y) for x in range(36) for y in range(30)]),):
            with self.assertRaises(NotFair):
                goings(table)

    def test_example(self):
        table = Table.parity(3, 3)
        self.assertEqual([len(goings(table)), goings_with(table, (1,))],
                         [5, ((0, 0, 0, 0, 0, 0, 0, 0, 0), (0, 1, 2, 0, 1, 2, 0, 1, 2))])


class PutAllTest(Asking):
    def test_put_all(self):
        chance = random.Random(1)
        for table in FAIR + SORTS + UNFAIR:
            for many in range(min(3, 8 - table.columns) + 1):
                some = [[chance.randrange(table.signs) for _ in table] for _ in range(many)]
                found = put_all(table, some)
                self.assertEqual(found.rows, tuple(row + tuple(parting[number] for parting in some)
                                                   for number, row in enumerate(table)))
                self.assertEqual(found.part_table(list(range(table.columns))), table)
                self.assertEqual(found.signs, table.signs)
            self.assertEqual(put_all(table, ()), table)
            self.assertEqual(put_all(table, []), table)

    def test_one_after_another(self):
        for table in (Table.full(2, 2), Table.full(4, 2), Table.parity(3, 3), FIVE, square_of(KLEIN)):
            chance = random.Random(len(table))
            found = list(goings(table)) + [tuple(chance.randrange(table.signs) for _ in table) for _ in range(3)]
            for some in [chance.sample(found, 3) for _ in range(25)]:
                after, each = table, []
                for parting in some:
                    each.append(is_fair(after) and goes_in(after, parting))
                    after = put_in(after, parting)
                self.assertEqual(put_all(table, some), after)
                self.assertIs(is_fair(after), all(each))
                self.assertEqual(len({is_fair(put_all(table, order)) for order in permutations(some)}), 1)

    def test_partings_that_do_not_go_in_together(self):
        table = Table.full(4, 2)
        apart = 0
        for one, other in combinations(goings(table), 2):
            self.assertTrue(is_fair(put_in(table, one)) and is_fair(put_in(table, other)))
            apart += not is_fair(put_all(table, (one, other)))
        self.assertGreater(apart, 0)

    def test_wrong(self):
        bad = UNFAIR[3]
        for partings in NO_LISTS:
            self.wrong(BadParting, "place", -1, put_all, bad, partings)
        right = [0, 1, 1, 0]
        for parting in NO_LISTS + ((), [0] * 3, (0,) * 5):
            self.wrong(BadParting, "place", -1, put_all, bad, [right, parting, [9] * 4])
        for value in NO_INTEGERS + (-1, 2):
            self.wrong(BadParting, "place", 2, put_all, bad, (right, [0, 1, value, value], ()))
            self.wrong(BadParting, "place", 3, put_all, bad, [right] * 9 + [(0, 0, 0, value)])
        self.wrong(BadNumber, "name", "columns", put_all, bad, [right] * 6)
        self.assertEqual(put_all(bad, [right] * 5).columns, 8)
        self.wrong(BadNumber, "name", "columns", put_all, Table.parity(2, 8), [[0] * 128])
        self.assertEqual(put_all(Table.parity(2, 8), []), Table.parity(2, 8))


if __name__ == "__main__":
    unittest.main()
