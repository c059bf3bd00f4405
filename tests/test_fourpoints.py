"""Four points: [124] to [127] and the section toldorfree/fourpoints.py."""

import unittest
from itertools import combinations, permutations, product

from tests.asking import Asking
from tests.samples import (BENT, FAIR, FIVE, FIVES, FOUR, GROUPS, KLEIN, NO_INTEGERS, SORTS, UNFAIR, all_lots,
                           drawn_square, four_points, plain_circuits, plain_fair, plain_rank, ring, shuffled, square_of)
from tests.wholes import TURNS, plain_cuts, plain_product
from toldorfree.cuts import class_column
from toldorfree.errors import BadNumber, NotFair, OtherShape, TooMany
from toldorfree.fourpoints import (fits_in, four_point_group, four_point_table, is_four_points, rounds_of_edges,
                                   triangles)
from toldorfree.goings import put_all
from toldorfree.groups import Group
from toldorfree.matching import equal_up_to_names
from toldorfree.ranks import Ranks
from toldorfree.reading import read_group
from toldorfree.rings import is_ring
from toldorfree.squares import closes, comes_of
from toldorfree.tables import Table
from toldorfree.trees import tree_of

EDGES = list(combinations(range(4), 2))
TABLES = [four_points(group) for group in GROUPS.values() if group.size < 6] + [
    shuffled(four_points(GROUPS["3"]), 1), shuffled(four_points(KLEIN), 2), shuffled(four_points(FOUR), 3),
    four_points(TURNS), shuffled(four_points(TURNS), 4)]
# no tables of four points: other shapes, and columns in other places
OTHERS = [table for table in FAIR + SORTS if table.columns != 6] + [
    Table.full(2, 6), Table.parity(2, 6), Table.parity(2, 3) + Table.parity(2, 3), four_points(KLEIN).moved((1, 0, 2, 3, 4, 5)),
    four_points(GROUPS["3"]).moved((0, 1, 3, 2, 4, 5)), Table.parity(3, 3).with_copy(0).with_copy(1).with_copy(2),
    four_points(GROUPS["2"]) - (5,), four_points(GROUPS["2"]).with_copy(0), (four_points(GROUPS["2"]) - (5,)).with_copy(0),
    (four_points(GROUPS["3"]) - (5,)) + Table(3, [(2,)]), (four_points(GROUPS["2"]) - (5,)) + Table.full(2, 1)]


def plain_points_rank(lot):
    """4 less the number of parts that the edges of the lot make of four points."""
    parts = [{point} for point in range(4)]
    for column in lot:
        one, other = [next(part for part in parts if point in part) for point in EDGES[column]]
        if one is not other:
            parts = [part for part in parts if part not in (one, other)] + [one | other]
    return 4 - len(parts)


def plain_shape(table):
    return (table.columns == 6 and plain_fair(table)
            and all(plain_rank(table, lot) == plain_points_rank(lot) for lot in all_lots(6)))


class ShapeTest(Asking):
    def test_tables_of_groups(self):
        for group in GROUPS.values():
            table = four_point_table(group)
            self.assertEqual(table, four_points(group))
            self.assertEqual((table.many, table.signs), (group.size ** 3, group.size))
            self.assertIs(is_four_points(table), True)
        for size in (7, 8, 9, 10):
            self.assertIs(is_four_points(four_point_table(Group.sums(size))), True)
        self.assertIs(is_four_points(four_point_table(FIVES)), True)
        for size in (11, 12):
            self.wrong(TooMany, "limit", 1300, four_point_table, Group.sums(size))

    def test_shape(self):
        for table in TABLES[:6] + OTHERS:
            if table.columns == 6:
                self.assertIs(is_four_points(table), plain_shape(table))
            else:
                self.assertIs(is_four_points(table), False)
        for table in TABLES[6:]:
            self.assertIs(is_four_points(table), True)
        for table in UNFAIR:
            self.assertIs(is_four_points(table), False)
        rows = four_points(GROUPS["2"]).rows
        self.assertIs(is_four_points(Table(2, rows[:7])), False)
        self.assertIs(is_four_points(Table(3, rows)), False)

    def test_circuits(self):
        for table in TABLES[:5]:
            self.assertEqual(plain_circuits(table), sorted(
                [(0, 1, 3), (0, 2, 4), (1, 2, 5), (3, 4, 5), (0, 2, 3, 5), (0, 1, 4, 5), (1, 2, 3, 4)],
                key=lambda lot: (len(lot), lot)))
            self.assertEqual(Ranks(table), Ranks(TABLES[0]))

    def test_cuts_and_tree(self):
        for table in TABLES[:6]:
            self.assertEqual(plain_cuts(table), [])
            self.assertEqual(tree_of(table).sorts(), ("firm",))
        self.assertEqual([piece.lots for piece in tree_of(TABLES[-1])], [((0,), (1,), (2,), (3,), (4,), (5,))])


class GroupTest(Asking):
    def plainly(self, table, number):
        """The read product of the square of the table at the part-row of the row."""
        rows = sorted({(row[0], row[3], row[1]) for row in table})
        row = table[number]
        return plain_product(Table(table.signs, rows), (row[0], row[3], row[1]))

    def test_groups(self):
        for table in TABLES:
            first = four_point_group(table)
            self.assertEqual(first, four_point_group(table, base=0))
            self.assertEqual(first, four_point_group(table, base=None))
            for base in sorted({0, 1, 5, table.many // 3, table.many - 1}):
                group = four_point_group(table, base=base)
                self.assertEqual(group.products, self.plainly(table, base))
                self.assertIsNotNone(group.isomorphism_to(first))
                self.assertTrue(equal_up_to_names(table, four_point_table(group)))
        for group in list(GROUPS.values()) + [FIVES]:
            self.assertIsNotNone(four_point_group(four_point_table(group)).isomorphism_to(group))

    def test_equal_up_to_names(self):
        for one in TABLES:
            for other in TABLES:
                if one.signs == other.signs and one.many <= 125:
                    same = four_point_group(one).isomorphism_to(four_point_group(other)) is not None
                    self.assertIs(equal_up_to_names(one, other), same)

    def test_triangles(self):
        for table in TABLES:
            group = four_point_group(table)
            found = triangles(table)
            self.is_tuples(found)
            self.assertEqual(found, tuple(table.part_table(lot) for lot in ((0, 1, 3), (0, 2, 4), (1, 2, 5), (3, 4, 5))))
            for square in found:
                self.assertTrue(closes(square) and comes_of(square, group))

    def test_rounds(self):
        for table in TABLES:
            group = four_point_group(table)
            found = rounds_of_edges(table)
            self.is_tuples(found)
            for way, part in zip(((0, 3, 5, 2), (0, 4, 5, 1), (1, 3, 4, 2)), found):
                self.assertEqual(set(part.rows), {tuple(row[column] for column in way) for row in table})
                self.assertIs(is_ring(part), True)
                self.assertIsNotNone(read_group(part, base=part.many - 1).isomorphism_to(group))

    def test_examples(self):
        table = four_point_table(Group.sums(2))
        self.assertEqual([table[1], fits_in(Table.parity(2, 3)) == table, rounds_of_edges(table)[0] == Table.parity(2, 4)],
                         [(0, 0, 1, 0, 1, 1), True, True])
        self.assertEqual(four_point_group(four_point_table(Group.sums(4))), Group.sums(4))


class FitsTest(Asking):
    def plainly(self, square):
        products = plain_product(square, square[0])
        x = {row[0]: row[2] for row in square if row[1] == square[0][1]}
        y = {row[1]: row[2] for row in square if row[0] == square[0][0]}
        return {(s, v, products[products[x[s]][y[u]]][z], u, products[y[u]][z], z)
                for s, u, v in square for z in range(square.signs)}

    def test_squares_that_close(self):
        for square in [square_of(group) for group in GROUPS.values()] + [shuffled(square_of(TURNS), 1), Table.parity(5, 3),
                                                                         shuffled(square_of(KLEIN), 2), Table.parity(10, 3)]:
            table = fits_in(square)
            self.assertEqual(set(table.rows), self.plainly(square))
            self.assertIs(is_four_points(table), True)
            self.assertEqual(table.part_table((0, 1, 3)).moved((0, 2, 1)), square)

    def test_squares_that_do_not_close(self):
        for square in (FIVE, shuffled(FIVE, 1), drawn_square(6, 1), drawn_square(10, 1), drawn_square(11, 1),
                       drawn_square(12, 2)):
            self.assertFalse(closes(square))
            self.assertIsNone(fits_in(square))

    def test_limits(self):
        self.assertEqual(fits_in(Table.parity(10, 3)).many, 1000)
        for signs in (11, 12):
            self.wrong(TooMany, "limit", 1300, fits_in, Table.parity(signs, 3))
        for square in (Table.parity(13, 3), Table.parity(36, 3), drawn_square(13, 1), drawn_square(14, 1)):
            self.wrong(TooMany, "limit", 12, fits_in, square)

    def test_rings_with_class_columns(self):
        for group in GROUPS.values():
            for table in (ring(group, 4), shuffled(ring(group, 4), 2)):
                larger = put_all(table, [class_column(table, (0, 1)), class_column(table, (0, 3))])
                found = larger.moved((0, 4, 3, 1, 5, 2))
                self.assertIs(is_four_points(found), True)
                self.assertIsNotNone(four_point_group(found).isomorphism_to(group))

    def test_one_table_up_to_names(self):
        """Two tables with one square are led to one another by names at the columns 03, 13 and 23 alone."""
        for table in (TABLES[1], TABLES[5], TABLES[0], shuffled(TABLES[1], 9)):
            other = fits_in(table.part_table((0, 1, 3)).moved((0, 2, 1)))
            rows = set(other.rows)
            same = tuple(range(table.signs))
            found = [names for names in product(permutations(same), repeat=3)
                     if {(row[0], row[1], names[0][row[2]], row[3], names[1][row[4]], names[2][row[5]])
                         for row in table} == rows]
            self.assertGreaterEqual(len(found), 1)


class WrongTest(Asking):
    def test_no_four_points(self):
        for call in (four_point_group, triangles, rounds_of_edges):
            for table in UNFAIR:
                with self.assertRaises(NotFair):
                    call(table)
            self.wrong(NotFair, "lot", (0, 1), call, UNFAIR[0])
            for table in OTHERS:
                self.wrong(OtherShape, "word", "fourpoints", call, table)

    def test_bases(self):
        for base in [value for value in NO_INTEGERS if value is not None] + [-1, 3]:
            self.wrong(BadNumber, "name", "base", four_point_group, UNFAIR[0], base=base)
        self.wrong(BadNumber, "name", "base", four_point_group, Table.full(2, 2), base=4)
        self.wrong(BadNumber, "name", "base", four_point_group, TABLES[0], base=8)
        self.wrong(OtherShape, "word", "fourpoints", four_point_group, Table.full(2, 2), base=3)
        self.assertEqual(four_point_group(TABLES[0], base=7).size, 2)

    def test_no_squares(self):
        for table in UNFAIR:
            with self.assertRaises(NotFair):
                fits_in(table)
        for table in (BENT, Table.full(13, 2), Table.parity(13, 2).with_copy(0), Table.full(2, 3)):
            self.wrong(OtherShape, "word", "square", fits_in, table)


if __name__ == "__main__":
    unittest.main()
