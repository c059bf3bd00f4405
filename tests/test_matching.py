"""Equal up to names: [8], [28] and the section toldorfree/matching.py."""

import unittest
from itertools import product

from tests.asking import Asking
from tests.samples import FAIR, FOUR, GROUPS, KLEIN, UNFAIR, bent, line, renamings_plainly, ring, shuffled, square_of
from toldorfree.errors import NotFair, OtherColumns, OtherSigns
from toldorfree.groups import Group
from toldorfree.matching import equal_up_to_names, keeps, renaming_between
from toldorfree.naming import Renaming, renamed
from toldorfree.ranks import Ranks
from toldorfree.sums import cubes_of
from toldorfree.tables import Table


class MatchingTest(Asking):
    def check_equal(self, one, other):
        found = renaming_between(one, other)
        self.assertIsInstance(found, Renaming)
        self.assertEqual(renamed(one, found), other)
        self.assertIs(equal_up_to_names(one, other), True)

    def check_unlike(self, one, other):
        self.assertIsNone(renaming_between(one, other))
        self.assertIs(equal_up_to_names(one, other), False)

    def test_renamed_tables(self):
        for seed, table in enumerate(FAIR + (Table.full(36, 2), Table.full(2, 8), Table.parity(2, 8))):
            self.check_equal(table, table)
            self.check_equal(table, shuffled(table, seed))
            self.check_equal(shuffled(table, seed + 1), shuffled(table, seed))

    def test_other_shapes(self):
        self.check_unlike(Table.parity(2, 3), Table.full(2, 3))
        self.check_unlike(Table.parity(2, 3), Table.full(2, 1) + Table.parity(2, 2))
        self.check_unlike(Table.full(2, 2) + Table(2, [(0,)]), Table(2, [(0,)]) + Table.full(2, 2))

    def test_fixed_columns(self):
        self.check_equal(Table(5, [(4, 0)]), Table(5, [(2, 0)]))
        self.check_equal(Table(2, [(0,)]), Table(2, [(1,)]))
        self.check_equal(Table.parity(3, 3) + Table(3, [(0,)]), shuffled(Table.parity(3, 3), 3) + Table(3, [(2,)]))

    def test_squares_of_groups(self):
        for one in GROUPS.values():
            for other in GROUPS.values():
                if one.size == other.size:
                    same = one.isomorphism_to(other) is not None
                    call = self.check_equal if same else self.check_unlike
                    call(square_of(one), shuffled(square_of(other), 4))

    def test_tables_of_one_shape_that_are_not_equal(self):
        self.check_unlike(ring(FOUR, 4), ring(KLEIN, 4))
        self.check_unlike(ring(KLEIN, 4), bent(4, [(0, 1, 2)]))
        self.check_unlike(bent(4, [(0, 1)]), bent(4, [(0, 1, 2)]))
        self.check_equal(bent(4, [(0, 1, 2)]), shuffled(bent(4, [(0, 1, 2)]), 8))
        beside = ring(FOUR, 3) + Table.full(4, 1)
        self.check_unlike(beside, ring(KLEIN, 3) + Table.full(4, 1))

    def test_parts_beside_one_another_are_matched_by_themselves(self):
        one = square_of(FOUR) + square_of(KLEIN)
        self.check_equal(one, shuffled(one, 2))
        self.check_unlike(one, square_of(KLEIN) + square_of(FOUR))

    def test_all_renamings(self):
        for one in (Table.parity(3, 2), Table.full(3, 1) + Table(3, [(1,)]), Table(3, [(0, 2)]), Table.full(3, 2)):
            for renaming in renamings_plainly(3, 2):
                self.check_equal(one, renamed(one, renaming))
                self.assertIs(keeps(one, renaming), renamed(one, renaming) == one)

    def test_two_or_three_signs(self):
        for signs in (2, 3):
            for columns in (2, 3, 4):
                cubes = cubes_of(signs, columns)
                for cube in cubes:
                    self.check_equal(cubes[0], cube)
        # the shape of x, y, x + y, x + z, y + z, made with other sums
        for signs in (2, 3):
            made = []
            for a, b, c in product(range(1, signs), repeat=3):
                rows = [(x, y, z, (x + a * y) % signs, (x + b * z + 1) % signs, (y + c * z) % signs)
                        for x, y, z in product(range(signs), repeat=3)]
                made.append(Table(signs, rows))
            for one in made:
                for other in made:
                    call = self.check_equal if Ranks(one) == Ranks(other) else self.check_unlike
                    call(one, other)
        self.check_equal(line(3, 4), line(3, 4).moved((3, 1, 0, 2)))

    def test_keeps(self):
        table = Table.parity(3, 3)
        self.assertIs(keeps(table, Renaming([(1, 2, 0), (2, 0, 1), (0, 1, 2)])), True)
        self.assertIs(keeps(table, Renaming([(1, 2, 0), (1, 2, 0), (0, 1, 2)])), False)
        self.assertIs(keeps(table, Renaming([(0, 2, 1)] * 3)), True)
        fixed = Table(3, [(1, 0), (1, 1), (1, 2)])
        self.assertIs(keeps(fixed, Renaming([(2, 1, 0), (2, 0, 1)])), True)
        self.assertIs(keeps(fixed, Renaming([(1, 0, 2), (2, 0, 1)])), False)

    def test_symmetries_of_a_square(self):
        table = square_of(Group.sums(3))
        self.assertEqual(sum(keeps(table, renaming) for renaming in renamings_plainly(3, 3)), 18)

    def test_refuses(self):
        table, bad = Table.parity(2, 3), UNFAIR[3]
        for call in (renaming_between, equal_up_to_names):
            self.wrong(OtherSigns, "signs", 3, call, bad, Table.parity(3, 2))
            self.wrong(OtherColumns, "columns", 2, call, bad, Table.parity(2, 2))
            self.wrong(NotFair, "lot", (0, 2), call, bad, nearly_other(bad))
            self.wrong(NotFair, "lot", (0, 2), call, table, bad)
            self.wrong(NotFair, "lot", (0, 1), call, nearly_other(bad), bad)
        self.wrong(OtherSigns, "signs", 3, keeps, bad, Renaming.same(3, 2))
        self.wrong(OtherColumns, "columns", 2, keeps, bad, Renaming.same(2, 2))
        self.wrong(NotFair, "lot", (0, 2), keeps, bad, Renaming.same(2, 3))


def nearly_other(table):
    """The table moved, so that another circuit of it is the first bad one."""
    return table.moved((0, 2, 1))


if __name__ == "__main__":
    unittest.main()
