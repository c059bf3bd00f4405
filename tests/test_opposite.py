"""Opposite pairs and columns: [128] to [130], what [83] and [116] say of them, and toldorfree/opposite.py."""

import unittest
from itertools import permutations

from tests.asking import Asking
from tests.samples import (BENT, FIVES, FOUR, GROUPS, KLEIN, NO_INTEGERS, UNFAIR, four_points, plain_classes,
                           plain_fair, plain_free, plain_meet, plain_tells, shuffled)
from tests.test_fourpoints import OTHERS, TABLES
from tests.wholes import TURNS
from toldorfree.classes import class_shares
from toldorfree.cuts import cuts_of, splits_of
from toldorfree.errors import BadNumber, NotFair, OtherShape
from toldorfree.fourpoints import four_point_group, four_point_table, rounds_of_edges
from toldorfree.groups import Group
from toldorfree.opposite import OPPOSITE, halves_alike, opposite_column, opposite_meet, seventh
from toldorfree.partings import tells_parting
from toldorfree.putting import goes_in, why_not
from toldorfree.tables import Table

PAIRS = list(permutations(range(3), 2))
# the group with seven elements, and the one with eight and exponent two, besides the small ones
MORE = TABLES + [four_points(Group.sums(7)), four_points(GROUPS["2"] * KLEIN), four_points(GROUPS["6"])]


class OppositeTest(Asking):
    def test_pairs(self):
        self.assertEqual(OPPOSITE, ((0, 5), (1, 4), (2, 3)))

    def test_meeting(self):
        answers = set()
        for table in MORE:
            group = four_point_group(table)
            for first, second in PAIRS:
                one, other = OPPOSITE[first], OPPOSITE[second]
                numbers = plain_classes(table, one, other)
                many = len(set(numbers))
                self.assertEqual(plain_meet(table, one, other), 1)
                self.assertEqual(many * len(group.commutators()), table.signs)
                self.assertEqual(set(class_shares(table, one, other)), {len(group.commutators())})
                self.assertIs(opposite_meet(table, first, second), many == table.signs)
                self.assertIs(opposite_meet(table, first, second), group.is_abelian())
                if many == table.signs:
                    self.assertEqual(opposite_column(table, first, second), numbers)
                    self.assertEqual({numbers.count(number) for number in numbers}, {table.signs ** 2})
                else:
                    self.assertIsNone(opposite_column(table, first, second))
                    self.assertIsNone(seventh(table, first, second))
            answers.add(group.is_abelian())
        self.assertEqual(answers, {True, False})
        self.assertIs(opposite_meet(four_point_table(FIVES), 2, 1), False)

    def test_rounds(self):
        for table in MORE[:11]:
            abelian = four_point_group(table).is_abelian()
            for part in rounds_of_edges(table):
                self.assertIs(splits_of(part) == cuts_of(part), abelian)

    def test_columns(self):
        for table in MORE:
            group = four_point_group(table)
            found = [opposite_column(table, first, second) for first, second in PAIRS]
            self.is_tuples(tuple(found))
            if group.is_abelian():
                self.assertEqual(found[0], opposite_column(table, 1, 0))
                columns = {found[0], found[1], found[3]}
                self.assertEqual(len(columns), 1 if group.has_exponent_two() else 3)
            alike = None not in found and len(set(found)) == 1
            self.assertIs(halves_alike(table), alike)
            self.assertIs(halves_alike(table), group.has_exponent_two())

    def test_seventh_columns(self):
        answers = set()
        for table in MORE:
            group = four_point_group(table)
            wanted = group.has_exponent_two() or (group.is_abelian() and group.size % 2 == 1)
            for first, second in PAIRS:
                found = seventh(table, first, second)
                self.assertIs(found is not None, wanted)
                column = opposite_column(table, first, second)
                if column is not None:
                    self.assertIs(goes_in(table, column), wanted)
                if wanted:
                    self.assertEqual(found.rows, tuple(row + (sign,) for row, sign in zip(table, column)))
                    self.check_third(table, group, first, second, column, found)
            answers.add((group.is_abelian(), wanted))
        self.assertEqual(answers, {(True, True), (True, False), (False, False)})

    def check_third(self, table, group, first, second, column, found):
        """The pairs tell their column; the third pair tells it, or leaves it free for an odd size."""
        for number in (first, second):
            self.assertIs(tells_parting(table, OPPOSITE[number], column), True)
        lot = OPPOSITE[3 - first - second]
        if table.many <= 64:
            self.assertTrue(plain_fair(found))
            self.assertIs(plain_tells(found, lot, 6), group.has_exponent_two())
            self.assertIs(plain_free(found, lot, 6), group.size % 2 == 1)

    def test_sums_of_four_and_six(self):
        for size in (4, 6):
            table = four_point_table(Group.sums(size))
            for first, second in PAIRS:
                self.assertIs(opposite_meet(table, first, second), True)
                self.assertIsNone(seventh(table, first, second))
        table = Table(4, [(a, b, c, (b - a) % 4, (c - a) % 4, (c - b) % 4)
                          for a in range(4) for b in range(4) for c in range(4)])
        column = opposite_column(table, 0, 1)
        self.assertEqual(plain_classes(table, (0, 5), (1, 4)), column)
        self.assertEqual(len(set(column)), 4)
        # the lot (2, 3) neither tells the column nor leaves it free
        self.assertIsNotNone(why_not(table, column))
        rows = {(row[2], row[3], sign) for row, sign in zip(table, column)}
        parts = {row[:2] for row in rows}
        self.assertTrue(len(parts) < len(rows) < 4 * len(parts))

    def test_examples(self):
        self.assertEqual(opposite_column(four_point_table(Group.sums(2)), 0, 1), (0, 1, 1, 0, 1, 0, 0, 1))
        table = four_point_table(Group.sums(4))
        self.assertEqual([opposite_meet(table, 2, 0), halves_alike(table), seventh(table, 0, 1)], [True, False, None])


class WrongTest(Asking):
    CALLS = (opposite_meet, opposite_column, seventh)

    def test_numbers_come_first(self):
        bad = UNFAIR[0]
        for call in self.CALLS:
            for number in NO_INTEGERS + (-1, 3):
                self.wrong(BadNumber, "name", "first", call, bad, number, "x")
                self.wrong(BadNumber, "name", "second", call, bad, 0, number)
            for number in range(3):
                self.wrong(BadNumber, "name", "second", call, bad, number, number)
            self.wrong(BadNumber, "name", "second", call, BENT, 1, 1)

    def test_tables(self):
        for call in self.CALLS + (lambda table, *_: halves_alike(table),):
            self.wrong(NotFair, "lot", (0, 1), call, UNFAIR[0], 2, 0)
            for table in OTHERS:
                self.wrong(OtherShape, "word", "fourpoints", call, table, 0, 2)
        for table in UNFAIR:
            with self.assertRaises(NotFair):
                halves_alike(table)

    def test_renamed_tables(self):
        for seed, group in enumerate((FOUR, KLEIN, TURNS, GROUPS["5"])):
            table = shuffled(four_points(group), seed + 20)
            self.assertIs(halves_alike(table), group.has_exponent_two())
            self.assertIs(opposite_meet(table, 0, 2), group.is_abelian())


if __name__ == "__main__":
    unittest.main()
