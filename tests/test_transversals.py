"""Transversals: [85], [87] and the section toldorfree/transversals.py."""

import unittest
from itertools import combinations

from tests.asking import Asking
from tests.samples import (BENT, FAIR, FIVE, FOUR, GROUPS, KLEIN, SORTS, UNFAIR, line, shuffled, square)
from toldorfree.circuits import equal_columns, fixed_columns
from toldorfree.errors import NotFair, OtherShape, TooMany
from toldorfree.fairness import is_fair
from toldorfree.groups import Group
from toldorfree.laid import square_of
from toldorfree.partings import column_parting, numbered, put_in
from toldorfree.ranks import Ranks
from toldorfree.tables import Table
from toldorfree.transversals import partings_by_transversals, transversals

TURNS = Group.turns()
# a square of 6 signs that has transversals, but no parting by transversals
SIX = ((2, 1, 3, 0, 4, 5), (0, 4, 1, 5, 3, 2), (3, 5, 2, 4, 1, 0), (5, 3, 0, 1, 2, 4), (1, 0, 4, 2, 5, 3), (4, 2, 5, 3, 0, 1))
LONE = square(6, lambda x, y: SIX[x][y])
# fair tables of rank 2 with at most 25 rows
TWO = [table for table in FAIR + SORTS + (Table.full(3, 2) + Table(3, [(2,)]), Table.full(2, 2).with_copy(0),
                                          (Table(5, [(3,)]) + FIVE).moved((1, 3, 0, 2)), square_of(KLEIN).with_copy(2))
       if Ranks(table).total == 2 and table.many <= 25]


def plain_transversals(table):
    loose = [column for column in range(table.columns) if len({row[column] for row in table}) > 1]
    found = []
    for rows in combinations(range(len(table)), table.signs):
        if all(len({table[row][column] for row in rows}) == table.signs for column in loose):
            found.append(rows)
    return tuple(found)


def plain_partings(table):
    """All numbered partings whose signs stand at transversals each."""
    choices, found = transversals(table), []

    def extend(chosen, left):
        if not left:
            found.append(numbered([next(place for place, rows in enumerate(chosen) if row in rows)
                                   for row in range(len(table))]))
        for rows in choices:
            if left and min(left) in rows and set(rows) <= left:
                extend(chosen + [rows], left - set(rows))

    extend([], set(range(len(table))))
    return tuple(sorted(found))


class TransversalsTest(Asking):
    def test_transversals(self):
        for table in TWO:
            found = transversals(table)
            if table.many <= 16:
                self.assertEqual(found, plain_transversals(table))
            self.assertEqual(found, tuple(sorted(set(found))))
            self.is_tuples(found)
            loose = [column for column in range(table.columns) if column not in fixed_columns(table)]
            for rows in found:
                self.assertEqual(len(rows), table.signs)
                for one, other in combinations(rows, 2):
                    self.assertTrue(one < other and all(table[one][c] != table[other][c] for c in loose))

    def test_transversals_of_five_signs(self):
        for table in (FIVE, square_of(GROUPS["5"])):
            self.assertEqual(transversals(table), plain_transversals(table))

    def test_numbers_of_transversals(self):
        # a square of a group of odd size s has a multiple of s, the sums of 5 have 15
        self.assertEqual(len(transversals(square_of(GROUPS["5"]))), 15)
        self.assertEqual(len(transversals(Table.full(6, 2))), 720)
        self.assertEqual(len(transversals(square_of(KLEIN))), 8)
        self.assertEqual(transversals(Table.full(2, 2)), ((0, 3), (1, 2)))
        self.assertEqual(transversals(Table.parity(2, 3)), ())
        self.assertEqual(len(transversals(Table.full(3, 2).with_copy(0) + Table(3, [(2,)]))), 6)

    def test_partings(self):
        for table in TWO:
            found = partings_by_transversals(table)
            self.is_tuples(found)
            self.assertEqual(found, plain_partings(table))
            for parting in found[:20]:
                self.assertEqual(numbered(parting), parting)
                rows = [tuple(at for at, sign in enumerate(parting) if sign == number) for number in range(table.signs)]
                self.assertTrue(all(some in transversals(table) for some in rows))

    def test_many_equal_columns(self):
        for table in TWO:
            if partings_by_transversals(table):
                self.assertLessEqual(len(equal_columns(table)), table.signs)
        self.assertEqual(partings_by_transversals(line(5, 6)), ())
        self.assertEqual(len(partings_by_transversals(line(5, 5))), 1)

    def test_what_goes_in(self):
        for table in [table for table in TWO if table.columns < 8]:
            told = {numbered(column_parting(table, column)) for column in range(table.columns)}
            for parting in partings_by_transversals(table)[:30]:
                self.assertTrue(is_fair(put_in(table, parting)))
                self.assertNotIn(parting, told)

    def test_squares_of_groups(self):
        partings = {"3": 1, "klein": 2, "5": 3}
        for name, group in GROUPS.items():
            table = square_of(group)
            found = transversals(table)
            product = group.product_of(list(range(group.size)))
            if found:
                self.assertIn(product, group.commutators())
            self.assertIs(bool(found), name in partings)
            self.assertEqual(len(partings_by_transversals(table)), partings.get(name, 0))
        self.assertEqual(partings_by_transversals(square_of(GROUPS["2"])), ())

    def test_transversals_without_a_parting(self):
        self.assertTrue(is_fair(LONE) and len(LONE) == 36)
        self.assertEqual(len(transversals(LONE)), 8)
        self.assertEqual(partings_by_transversals(LONE), ())

    def test_names(self):
        for seed, table in enumerate(TWO[:12]):
            turned = shuffled(table, seed)
            self.assertEqual(len(transversals(turned)), len(transversals(table)))
            self.assertEqual(len(partings_by_transversals(turned)), len(partings_by_transversals(table)))

    def test_limits(self):
        self.assertEqual(len(partings_by_transversals(Table.full(5, 2))), 1344)
        self.assertEqual(len(partings_by_transversals(Table.full(4, 2))), 24)
        self.wrong(TooMany, "limit", 2000, partings_by_transversals, Table.full(6, 2))
        for call in (transversals, partings_by_transversals):
            self.wrong(TooMany, "limit", 36, call, Table.full(7, 2))
            self.wrong(TooMany, "limit", 36, call, Table.parity(36, 3))
            self.assertEqual(call(square_of(FOUR)), ())
            self.assertEqual(call(square_of(TURNS)), ())

    def test_wrong(self):
        for call in (transversals, partings_by_transversals):
            for table in UNFAIR:
                with self.assertRaises(NotFair):
                    call(table)
            self.wrong(NotFair, "lot", (0, 2), call, UNFAIR[3])
            for table in (Table(2, [(0, 1)]), Table.full(2, 1), Table.full(2, 3), Table.parity(2, 4), BENT,
                          Table.full(36, 1).with_copy(0)):
                self.wrong(OtherShape, "word", "rank", call, table)

    def test_example(self):
        table = square_of(Group.sums(3))
        self.assertEqual([transversals(table), partings_by_transversals(table)],
                         [((0, 4, 8), (1, 5, 6), (2, 3, 7)), ((0, 1, 2, 2, 0, 1, 1, 2, 0),)])


if __name__ == "__main__":
    unittest.main()
