"""Squares: [121] to [123] and the section toldorfree/squares.py."""

import unittest
from itertools import permutations, product

from tests.asking import Asking
from tests.samples import (BENT, FAIR, FIVE, FIVES, FOUR, GROUPS, KLEIN, NO_INTEGERS, SORTS, UNFAIR, drawn,
                           drawn_square, glue_plainly, plain_latin, shuffled, square, square_of)
from tests.wholes import TURNS, plain_product
from toldorfree.cuts import is_split, splits_of
from toldorfree.errors import BadGroup, BadNumber, NotFair, OtherShape
from toldorfree.glue import glued
from toldorfree.groups import Group
from toldorfree.matching import equal_up_to_names
from toldorfree.reading import read_group, read_product
from toldorfree.rings import is_ring
from toldorfree.squares import closes, comes_of, corner, open_corner, turns_alike, ways
from toldorfree.sums import cubes_of
from toldorfree.tables import Table

SIX = [drawn_square(6, seed) for seed in range(3)]
SQUARES = ([square_of(group) for group in GROUPS.values()] + [shuffled(square_of(TURNS), 1), FIVE, shuffled(FIVE, 2)]
           + SIX + [drawn_square(7, 1), square(7, lambda x, y: (3 * x - y) % 7), Table.parity(2, 3) * Table.parity(3, 3),
                    square_of(TURNS).moved((2, 0, 1))])
OTHERS = [table for table in FAIR + SORTS if table.columns != 3 or not plain_latin(table)]


def plain_ways(table):
    return [{row[1]: row[2] for row in table if row[0] == sign} for sign in range(table.signs)]


def plain_corner(table, s, u, v):
    """The corner of three signs by the words of [121], None if there is none."""
    way = plain_ways(table)
    signs = range(table.signs)
    ends = {}
    for y in signs:
        x = [x for x in signs if way[u][x] == way[v][y]][0]
        ends[y] = way[s][x]
    found = [w for w in signs if way[w] == ends]
    return found[0] if found else None


def plain_open(table):
    for triple in product(range(table.signs), repeat=3):
        if plain_corner(table, *triple) is None:
            return triple
    return None


class CornersTest(Asking):
    def test_ways(self):
        for table in SQUARES:
            found = ways(table)
            self.is_tuples(found)
            self.assertEqual([dict(enumerate(way)) for way in found], plain_ways(table))
        self.assertEqual(len(ways(Table.parity(36, 3))), 36)

    def test_corners(self):
        for table in SQUARES:
            for triple in list(product(range(table.signs), repeat=3))[::1 if table.signs < 6 else 5]:
                self.assertEqual(corner(table, *triple), plain_corner(table, *triple))
            self.assertEqual(corner(table, 1, 1, 0), 0)

    def test_open_corners(self):
        answers = set()
        for table in SQUARES:
            wanted = plain_open(table)
            self.assertEqual(open_corner(table), wanted)
            self.is_tuples(open_corner(table))
            self.assertIs(closes(table), wanted is None)
            answers.add(wanted is None)
        self.assertEqual(answers, {True, False})

    def test_all_squares_of_few_signs_close(self):
        for signs in (2, 3, 4):
            for table in cubes_of(signs, 3):
                self.assertIs(closes(table), True)
                self.assertIsNone(open_corner(table))

    def test_many_signs(self):
        for signs in (10, 11, 12, 13, 36):
            self.assertIs(closes(Table.parity(signs, 3)), True)
            table = drawn_square(signs, signs)
            self.assertIs(closes(table), False)
            first = [triple for triple in product((0,), range(signs), range(signs))
                     if corner(table, *triple) is None][0]
            self.assertEqual(open_corner(table), first)
        self.assertIs(closes(FIVE * Table.parity(2, 3)), False)
        self.assertIs(closes(square(32, lambda x, y: x ^ y)), True)

    def test_triples_that_begin_with_0_are_enough(self):
        for table in SQUARES:
            zero = all(plain_corner(table, 0, u, v) is not None
                       for u in range(table.signs) for v in range(table.signs))
            self.assertIs(closes(table), zero)


class ClosingTest(Asking):
    def test_four_ways_to_close(self):
        for table in SQUARES:
            wanted = closes(table)
            read = {read_group(table, base=base) is not None for base in range(0, table.many, 3)}
            self.assertEqual(read, {wanted})
            groups = [group for group in GROUPS.values() if group.size == table.signs]
            if wanted and table.signs <= 6:
                self.assertTrue(any(equal_up_to_names(table, square_of(group)) for group in groups))
            elif groups:
                self.assertFalse(any(equal_up_to_names(table, square_of(group)) for group in groups))
            for order in permutations(range(3)):
                self.assertIs(closes(table.moved(order)), wanted)

    def test_comes_of(self):
        answers = []
        for table in SQUARES:
            for group in list(GROUPS.values()) + [FIVES, Group.sums(7)]:
                if group.size == table.signs:
                    wanted = equal_up_to_names(table, square_of(group))
                    self.assertIs(comes_of(table, group), wanted)
                    answers.append(wanted)
                else:
                    self.wrong(BadGroup, "place", group.size, comes_of, table, group)
        self.assertTrue(answers.count(True) > 8 and answers.count(False) > 8)
        self.assertIs(comes_of(square_of(FIVES), Group.sums(10)), False)
        self.assertIs(comes_of(shuffled(square_of(FIVES), 1), FIVES), True)
        self.assertIs(comes_of(Table.parity(12, 3), Group.sums(12)), True)
        self.assertIs(comes_of(Table.parity(12, 3), GROUPS["2"] * GROUPS["6"]), False)

    def test_turned_corners(self):
        answers = set()
        for table in SQUARES:
            signs = range(table.signs)
            wanted = closes(table) and all(plain_corner(table, s, 1, v) == plain_corner(table, v, 1, s)
                                           and plain_corner(table, s, 0, v) == plain_corner(table, v, 0, s)
                                           for s in signs for v in signs)
            self.assertIs(turns_alike(table), wanted)
            self.assertIs(wanted, closes(table) and read_group(table).is_abelian())
            answers.add((closes(table), wanted))
        self.assertEqual(answers, {(True, True), (True, False), (False, False)})
        self.assertIs(turns_alike(Table.parity(36, 3)), True)
        self.assertIs(turns_alike(Table.parity(6, 3) * square_of(TURNS)), False)

    def test_the_glue_that_shows_it(self):
        for table in SQUARES + [drawn_square(8, 1), Table.parity(8, 3)]:
            many = table.signs
            products = read_product(table)
            self.assertEqual(products, plain_product(table, table[0]))
            second = square(many, lambda e, z: products[e][z])
            both = glued(table, 2, second, 0)
            if many <= 7:
                self.check_rows(table, products, both)
            self.assertIs(is_split(both, (1, 2)), closes(table))
            if closes(table):
                self.assertIs(is_ring(both), True)
            else:
                self.assertEqual(splits_of(both), ((0, 1),))
                other = drawn_square(many, 9)
                self.assertEqual(splits_of(glue_plainly(table, 2, other, 1, drawn(many, 3))), ((0, 1),))

    def check_rows(self, table, products, both):
        first, second = ({row[0]: row[2] for row in table if row[1] == 0}, {row[1]: row[2] for row in table if row[0] == 0})
        # row number 0 is (0, 0, z)
        rows = {(x, y, z, products[products[first[x]][second[y]]][z])
                for x in first for y in second for z in range(table.signs)}
        self.assertEqual(set(both.rows), rows)

    def test_examples(self):
        self.assertEqual(ways(square_of(Group.sums(3))), ((0, 1, 2), (1, 2, 0), (2, 0, 1)))
        table = square_of(Group.turns())
        self.assertEqual([closes(table), turns_alike(table), corner(table, 1, 0, 2), corner(table, 2, 0, 1)],
                         [True, False, 4, 3])
        first = [(0, 0, 0), (0, 1, 1), (0, 2, 2), (0, 3, 3), (0, 4, 4), (1, 0, 1), (1, 1, 0), (1, 2, 3), (1, 3, 4), (1, 4, 2)]
        second = [(2, 0, 2), (2, 1, 4), (2, 2, 0), (2, 3, 1), (2, 4, 3), (3, 0, 3), (3, 1, 2), (3, 2, 4), (3, 3, 0), (3, 4, 1)]
        third = [(4, 0, 4), (4, 1, 3), (4, 2, 1), (4, 3, 2), (4, 4, 0)]
        self.assertEqual(open_corner(Table(5, first + second + third)), (0, 1, 0))


class WrongTest(Asking):
    def test_no_squares(self):
        for call in (ways, closes, open_corner, turns_alike, lambda table: corner(table, 0, 0, 0)):
            for table in UNFAIR:
                with self.assertRaises(NotFair):
                    call(table)
            self.wrong(NotFair, "lot", (0, 1), call, UNFAIR[0])
            for table in OTHERS + [Table.full(3, 3), Table.parity(3, 3).with_copy(0), Table(3, [(1, 1, 1)]),
                                   Table.parity(3, 2) + Table.full(3, 1)]:
                self.wrong(OtherShape, "word", "square", call, table)

    def test_signs_come_first(self):
        for sign in NO_INTEGERS + (-1, 2):
            for triple in ((sign, 0, 0), (0, sign, 0), (0, 0, sign)):
                self.wrong(BadNumber, "name", "sign", corner, UNFAIR[0], *triple)
        self.wrong(BadNumber, "name", "sign", corner, BENT, 4, 0, 0)
        self.wrong(OtherShape, "word", "square", corner, BENT, 3, 0, 0)

    def test_groups_come_first(self):
        self.wrong(BadGroup, "place", 3, comes_of, UNFAIR[0], GROUPS["3"])
        self.wrong(NotFair, "lot", (0, 1), comes_of, UNFAIR[0], GROUPS["2"])
        self.wrong(BadGroup, "place", 6, comes_of, BENT, TURNS)
        self.wrong(OtherShape, "word", "square", comes_of, BENT, KLEIN)
        self.wrong(BadGroup, "place", 4, comes_of, Table.parity(13, 3), FOUR)


if __name__ == "__main__":
    unittest.main()
