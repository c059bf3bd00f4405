"""Planes and lines: [131] to [133] and the section toldorfree/planes.py."""

import unittest
from itertools import permutations, product

from tests.asking import Asking
from tests.samples import (FAIR, FIVES, FOUR, GROUPS, KLEIN, NO_INTEGERS, SORTS, UNFAIR, four_points, plain_fair,
                           plain_rank, plain_tells, shuffled)
from tests.wholes import TURNS
from toldorfree.coarse import coarse_blocks, coarse_table
from toldorfree.circuits import equal_columns
from toldorfree.errors import BadGroup, BadNumber, TooMany
from toldorfree.fourpoints import four_point_group, four_point_table, is_four_points
from toldorfree.goings import goings
from toldorfree.groups import Group
from toldorfree.inner import inner_tables
from toldorfree.matching import equal_up_to_names
from toldorfree.opposite import opposite_column, seventh
from toldorfree.partings import column_parting, numbered, put_in
from toldorfree.planes import is_plane, is_short_plane, line_table, plane_table, short_plane_table
from toldorfree.putting import goes_in
from toldorfree.symmetries import count_symmetries, leads
from toldorfree.tables import Table

EIGHT = GROUPS["2"] * KLEIN
NINE = GROUPS["3"] * GROUPS["3"]
TWOS = (GROUPS["2"], KLEIN, EIGHT)
ODDS = (GROUPS["3"], GROUPS["5"], Group.sums(7), Group.sums(9), NINE)
PAIRS = ((0, 5), (1, 4), (2, 3))


def plain_extended(table):
    return table.columns == 7 and plain_fair(table) and is_four_points(Table(table.signs, sorted({row[:6] for row in table})))


def plain_plane(table):
    return (plain_extended(table) and all(plain_tells(table, pair, 6) for pair in PAIRS)
            and not any(plain_tells(table, (column,), 6) for column in range(6)))


def plain_short(table):
    return plain_extended(table) and [plain_tells(table, pair, 6) for pair in PAIRS] == [True, True, False]


# tables of four points with a seventh column of many kinds, and others
WITH_SEVEN = [plane_table(group) for group in TWOS[:2]] + [short_plane_table(GROUPS["3"])]
WITH_SEVEN += [four_points(group).with_copy(column) for group in (GROUPS["2"], GROUPS["3"]) for column in (0, 3)]
WITH_SEVEN += [four_points(GROUPS["2"]) + Table(2, [(1,)]), four_points(GROUPS["2"]) + Table.full(2, 1)]
WITH_SEVEN += [table.moved(order) for table in WITH_SEVEN[:3] for order in (
    (1, 0, 2, 3, 4, 5, 6), (0, 2, 1, 4, 3, 5, 6), (2, 1, 0, 5, 4, 3, 6), (6, 1, 2, 3, 4, 5, 0), (5, 4, 2, 3, 1, 0, 6))]
WITH_SEVEN += [put_in(four_points(GROUPS["2"]), [sum(row[column] for column in lot) % 2 for row in four_points(GROUPS["2"])])
               for lot in ((0, 1), (0, 5), (0, 1, 2), (1, 4), (2, 4, 5))]
# column 6 is told by the pairs as in a plane, or as in the short shape, but the first six are no four points
WITH_SEVEN += [Table(2, [(a, b, c, s ^ c, s ^ b, s ^ a, s) for a, b, c, s in product(range(2), repeat=4)]),
               Table(2, [(a, b, c, d, s ^ b, s ^ a, s) for a, b, c, d, s in product(range(2), repeat=5)])]
WITH_SEVEN += [put_in(four_points(FOUR), opposite_column(four_points(FOUR), 0, 1)), Table.parity(2, 7)]


class ShapeTest(Asking):
    def test_planes(self):
        found = {}
        for table in WITH_SEVEN + [shuffled(table, 3) for table in WITH_SEVEN[:3]] + list(FAIR + SORTS)[::3]:
            plane, short = plain_plane(table), plain_short(table)
            self.assertIs(is_plane(table), plane)
            self.assertIs(is_short_plane(table), short)
            found[plane, short] = found.get((plane, short), 0) + 1
        self.assertEqual(set(found), {(True, False), (False, True), (False, False)})
        for table in UNFAIR + (Table(2, plane_table(GROUPS["2"]).rows[:7]),):
            self.assertIs(is_plane(table), False)
            self.assertIs(is_short_plane(table), False)

    def test_tables_of_groups(self):
        for group in TWOS:
            table = plane_table(group)
            self.check_rows(group, table)
            self.assertIs(is_plane(table), True)
            self.assertIs(is_short_plane(table), False)
            self.assertIs(is_plane(shuffled(table, 1)), True)
        for group in ODDS:
            table = short_plane_table(group)
            self.check_rows(group, table)
            self.assertIs(is_short_plane(table), True)
            self.assertIs(is_plane(table), False)
            self.assertIs(is_short_plane(shuffled(table, 1)), True)

    def check_rows(self, group, table):
        """The last sign is inverse(x) * z, with x at the first edge and z at the last one."""
        self.assertEqual(table - (6,), four_point_table(group))
        for row in table:
            self.assertEqual(group.times(row[0], row[6]), row[5])

    def test_equal_up_to_names(self):
        for group in TWOS[:2]:
            self.assertTrue(equal_up_to_names(shuffled(plane_table(group), 4), plane_table(group)))
        for group in ODDS[:2]:
            table = shuffled(short_plane_table(group), 5)
            read = four_point_group(table - (6,))
            self.assertTrue(equal_up_to_names(table, short_plane_table(read)))

    def test_opposite_columns_make_them(self):
        for group in TWOS[:2] + ODDS[:3] + (FOUR, TURNS):
            table = shuffled(four_points(group), 6)
            for first, second in permutations(range(3), 2):
                found = seventh(table, first, second)
                if group.has_exponent_two():
                    self.assertIs(is_plane(found), True)
                elif group.is_abelian() and group.size % 2:
                    order = {(0, 1): (0, 1, 2, 3, 4, 5, 6), (0, 2): (0, 2, 1, 4, 3, 5, 6),
                             (1, 2): (2, 1, 0, 5, 4, 3, 6)}[tuple(sorted((first, second)))]
                    self.assertIs(is_short_plane(found.moved(order)), True)
                    self.assertIs(is_short_plane(found), {first, second} == {0, 1})
                else:
                    self.assertIsNone(found)

    def test_wrong_groups(self):
        for group in ODDS + (FOUR, TURNS, GROUPS["6"], FIVES, Group.sums(12), Group.sums(11)):
            self.wrong(BadGroup, "place", -1, plane_table, group)
        for group in TWOS + (FOUR, TURNS, GROUPS["6"], FIVES, Group.sums(12), TURNS * GROUPS["2"]):
            self.wrong(BadGroup, "place", -1, short_plane_table, group)
        self.wrong(TooMany, "limit", 1300, short_plane_table, Group.sums(11))
        self.assertEqual((plane_table(EIGHT).many, short_plane_table(NINE).many), (512, 729))

    def test_examples(self):
        self.assertEqual([is_plane(plane_table(Group.sums(2))), is_short_plane(short_plane_table(Group.sums(3)))],
                         [True, True])
        self.assertEqual([line_table(2).rows, line_table(4)[6]],
                         [((0, 0, 0), (0, 1, 1), (1, 0, 1), (1, 1, 0)), (1, 2, 3, 2, 0)])


class CountsTest(Asking):
    def tables(self):
        found = [(group, four_points(group)) for group in GROUPS.values()]
        found += [(group, plane_table(group)) for group in TWOS] + [(group, short_plane_table(group)) for group in ODDS]
        return found + [(FOUR, shuffled(four_points(FOUR), 7)), (KLEIN, shuffled(plane_table(KLEIN), 8))]

    def test_symmetries(self):
        for group, table in self.tables():
            many = len(group.automorphisms())
            self.assertEqual(count_symmetries(table), group.size ** 3 * many)
            self.assertEqual(count_symmetries(table, row=table[table.many // 2]), many)
            for last in (table[0], table[1], table[table.many - 1]):
                self.assertIsNotNone(leads(table, table[1], last))

    def test_inner_tables(self):
        for group, table in self.tables():
            if group.size <= 4:
                for size in range(2, group.size + 1):
                    many = len([lot for lot in group.subgroups() if len(lot) == size])
                    wanted = 0 if group.size % size else many * (group.size // size) ** 3
                    self.assertEqual(len(list(inner_tables(table, size))), wanted)

    def test_coarse_tables(self):
        for group, table in self.tables():
            for size in range(2, group.size):
                if group.size % size == 0 and (group.size, size) not in ((8, 2), (8, 4), (9, 3)):
                    many = len([lot for lot in group.normal_subgroups() if len(lot) == size])
                    self.assertEqual(len(coarse_blocks(table, size)), many)

    def test_plane_of_four_signs(self):
        table = plane_table(KLEIN)
        self.assertEqual(len(list(inner_tables(table, 2))), 24)
        blocks = coarse_blocks(table, 2)
        self.assertEqual(len(blocks), 3)
        for entry in blocks:
            self.assertTrue(equal_up_to_names(coarse_table(table, entry), plane_table(GROUPS["2"])))


class LinesTest(Asking):
    def test_rows(self):
        for signs in (2, 3, 5, 7):
            wanted = {(x, y) + tuple((x + k * y) % signs for k in range(1, signs))
                      for x in range(signs) for y in range(signs)}
            self.assertEqual(set(line_table(signs).rows), wanted)
        two, three = (0, 2, 3, 1), (0, 3, 1, 2)
        self.assertEqual(set(line_table(4).rows), {(x, y, x ^ y, x ^ two[y], x ^ three[y])
                                                   for x in range(4) for y in range(4)})

    def test_columns(self):
        for signs in (2, 3, 4, 5, 7):
            table = line_table(signs)
            self.assertEqual((table.signs, table.columns, plain_rank(table, range(signs + 1))), (signs, signs + 1, 2))
            self.assertTrue(plain_fair(table) if signs <= 5 else is_four_points(table) is False)
            self.assertEqual(equal_columns(table), tuple((column,) for column in range(signs + 1)))

    def test_what_goes_in(self):
        for signs in (2, 3, 4, 5):
            table = line_table(signs)
            own = {numbered(column_parting(table, column)) for column in range(signs + 1)}
            self.assertEqual(set(goings(table)), own | {(0,) * table.many})
        seven = line_table(7)
        for column in range(8):
            self.assertIs(goes_in(seven, column_parting(seven, column)), True)
        self.assertIs(goes_in(seven, [(x + y * y) % 7 for x in range(7) for y in range(7)]), False)

    def test_wrong_signs(self):
        for signs in NO_INTEGERS + (0, 1, 6, 8, 9, 11, -2, 10 ** 30, 2.0, 4.0):
            self.wrong(BadNumber, "name", "signs", line_table, signs)


if __name__ == "__main__":
    unittest.main()
