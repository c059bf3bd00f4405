"""Inner tables and coarse tables of rings: [113], [114] and the section toldorfree/inside.py."""

import unittest

from tests.asking import Asking
from tests.samples import (BENT, FIVE, FIVES, FOUR, GROUPS, KLEIN, NO_INTEGERS, UNFAIR, four_points, ring, shuffled,
                           square_of)
from tests.wholes import TURNS, plain_element
from toldorfree.coarse import coarse_blocks, coarse_table, is_coarse
from toldorfree.errors import BadLot, BadNumber, NotFair, OtherShape, TooMany
from toldorfree.groups import Group
from toldorfree.inner import inner_tables, is_inner, relabelled
from toldorfree.inside import coarse_count, inner_count, normal_blocks, subgroup_signs
from toldorfree.laid import ring_table
from toldorfree.reading import read_group, read_product
from toldorfree.rings import is_ring
from toldorfree.tables import Table

RINGS = [ring(FOUR, 3), shuffled(ring(KLEIN, 3), 1), ring(GROUPS["6"], 3), shuffled(square_of(TURNS), 2), ring(FOUR, 4),
         shuffled(ring(KLEIN, 4), 3), ring(GROUPS["3"], 4), ring(GROUPS["5"], 3), ring(GROUPS["2"], 5)]
GROUPS_OF_ALL_SIZES = [Group.sums(size) for size in range(2, 13)] + [
    KLEIN, TURNS, FIVES, Group.sums(2) * FOUR, Group.sums(2) * KLEIN, Group.sums(3) * Group.sums(3), TURNS * Group.sums(2)]


def subgroups_of(group, size):
    return [lot for lot in group.subgroups() if len(lot) == size]


def subgroup_of(table, chosen):
    """The numbers of the chosen signs as elements, if the relabelled table is a ring."""
    return read_group(relabelled(table, chosen))


def many_bases(table):
    return sorted({0, 1, table.many // 2, table.many - 1})


class CountsTest(Asking):
    def test_inner_counts(self):
        for group in GROUPS_OF_ALL_SIZES:
            for columns in (3, 5, 8):
                for size in range(2, group.size + 1):
                    many = len(subgroups_of(group, size))
                    wanted = 0 if group.size % size else many * (group.size // size) ** (columns - 1)
                    self.assertEqual(inner_count(group, columns, size), wanted)
        self.assertEqual([inner_count(Group.sums(4), 3, 2), inner_count(KLEIN, 4, 2), inner_count(TURNS, 3, 2),
                          inner_count(TURNS, 8, 6), inner_count(Group.sums(12), 8, 5)], [4, 24, 27, 1, 0])

    def test_inner_counts_and_inner_tables(self):
        for table in RINGS[:4] + RINGS[6:]:
            group = read_group(table)
            for size in range(2, table.signs + 1):
                found = list(inner_tables(table, size))
                self.assertEqual(inner_count(group, table.columns, size), len(found))
                for row in (table[0], table[table.many // 2]):
                    through = [chosen for chosen in found if all(sign in entry for sign, entry in zip(row, chosen))]
                    self.assertEqual(len(through), len(subgroups_of(group, size)))

    def test_coarse_counts(self):
        for group in GROUPS_OF_ALL_SIZES:
            for size in range(2, group.size):
                normal = [lot for lot in group.normal_subgroups() if len(lot) == size]
                self.assertEqual(coarse_count(group, size), len(normal))
        for table in RINGS:
            for size in range(2, table.signs):
                if table.signs % size == 0:
                    self.assertEqual(coarse_count(read_group(table), size), len(coarse_blocks(table, size)))
        self.assertEqual([coarse_count(KLEIN, 2), coarse_count(TURNS, 2), coarse_count(TURNS, 3), coarse_count(TURNS, 4)],
                         [3, 0, 1, 0])

    def test_wrong_numbers(self):
        for columns in NO_INTEGERS + (2, 9, -1, 0):
            self.wrong(BadNumber, "name", "columns", inner_count, FOUR, columns, "x")
        for size in NO_INTEGERS + (1, 5, 0, -2):
            self.wrong(BadNumber, "name", "size", inner_count, FOUR, 3, size)
        for size in NO_INTEGERS + (1, 4, 0, -2):
            self.wrong(BadNumber, "name", "size", coarse_count, FOUR, size)
        self.assertEqual(inner_count(FOUR, 8, 4), 1)
        self.wrong(BadNumber, "name", "size", coarse_count, GROUPS["2"], 2)


class SubgroupsTest(Asking):
    def test_chosen_signs(self):
        for table in RINGS:
            for base in many_bases(table):
                group = read_group(table, base=base)
                for lot in group.subgroups():
                    if len(lot) >= 2:
                        found = subgroup_signs(table, list(lot[::-1]), base=base)
                        self.is_tuples(found)
                        self.assertEqual(found, self.plainly(table, table[base], lot))
                        self.check_inner(table, base, group, lot, found)
            self.assertEqual(subgroup_signs(table, range_of(table)), (range_of(table),) * table.columns)

    def plainly(self, table, row, lot):
        entries = [tuple(sign for sign in range(table.signs) if plain_element(table, row, column, sign) in lot)
                   for column in range(table.columns - 1)]
        return tuple(entries) + (tuple(lot),)

    def check_inner(self, table, base, group, lot, found):
        self.assertIs(is_inner(table, found), True)
        self.assertTrue(all(sign in entry for sign, entry in zip(table[base], found)))
        small = relabelled(table, found)
        self.assertIs(is_ring(small), True)
        below = Group([[lot.index(group.times(x, y)) for y in lot] for x in lot])
        self.assertIsNotNone(read_group(small).isomorphism_to(below))

    def test_all_inner_tables_come_so(self):
        for table in RINGS:
            for base in many_bases(table)[:2]:
                group = read_group(table, base=base)
                for size in range(2, table.signs + 1):
                    wanted = [chosen for chosen in inner_tables(table, size)
                              if all(sign in entry for sign, entry in zip(table[base], chosen))]
                    found = [subgroup_signs(table, lot, base=base) for lot in subgroups_of(group, size)]
                    self.assertEqual(sorted(found), wanted)

    def test_blocks(self):
        many = 0
        for table in RINGS:
            for base in many_bases(table):
                group = read_group(table, base=base)
                for size in range(2, table.signs):
                    lots = [lot for lot in group.normal_subgroups() if len(lot) == size]
                    found = [normal_blocks(table, list(lot[::-1]), base=base) for lot in lots]
                    self.is_tuples(tuple(found))
                    if table.signs % size == 0:
                        self.assertEqual(sorted(found), list(coarse_blocks(table, size)))
                    for lot, blocks in zip(lots, found):
                        self.check_coarse(table, base, group, lot, blocks)
                        many += 1
        self.assertGreater(many, 40)

    def check_coarse(self, table, base, group, lot, blocks):
        self.assertIs(is_coarse(table, blocks), True)
        for x in range(table.signs):
            for y in range(table.signs):
                self.assertIs(blocks[-1][x] == blocks[-1][y], group.times(group.inverse(x), y) in lot)
        rough = coarse_table(table, blocks)
        self.assertIs(is_ring(rough), True)
        row = tuple(entry[sign] for entry, sign in zip(blocks, table[base]))
        products = read_product(rough, base=rough.number_of(row))
        last = blocks[-1]
        for x in range(table.signs):
            for y in range(table.signs):
                self.assertEqual(products[last[x]][last[y]], last[group.times(x, y)])

    def test_examples(self):
        table = ring_table(Group.sums(4), 3)
        self.assertEqual([inner_count(Group.sums(4), 3, 2), table[1], subgroup_signs(table, [3, 1], base=1)],
                         [4, (0, 1, 3), ((0, 2), (1, 3), (1, 3))])
        self.assertEqual(normal_blocks(table, (0, 2)), ((0, 1, 0, 1),) * 3)


def range_of(table):
    return tuple(range(table.signs))


class WrongTest(Asking):
    CALLS = (subgroup_signs, normal_blocks)

    def test_lots_come_first(self):
        bad = UNFAIR[6]
        self.assertEqual(bad.signs, 4)
        for call in self.CALLS:
            self.wrong_lots(4, lambda lot: call(bad, lot, base=-1))
            for base in [value for value in NO_INTEGERS if value is not None] + [-1, 16]:
                self.wrong(BadNumber, "name", "base", call, bad, (0, 2), base=base)
            with self.assertRaises(NotFair):
                call(bad, (), base=3)
            self.wrong(BadLot, "place", 1, call, Table.parity(13, 3), (12, 13))

    def test_tables(self):
        for call in self.CALLS:
            for table in (four_points(KLEIN), Table.parity(13, 2), Table.full(3, 2), Table.parity(4, 3).with_copy(0)):
                self.wrong(OtherShape, "word", "circuit", call, table, ())
            for signs in (13, 36):
                self.wrong(TooMany, "limit", 12, call, Table.parity(signs, 3), ())
            for table in (FIVE, BENT, ring(TURNS, 4).moved((0, 2, 1, 3))):
                self.wrong(OtherShape, "word", "ring", call, table, ())
                self.wrong(OtherShape, "word", "ring", call, table, (0, 1), base=5)

    def test_no_subgroups(self):
        table = ring(FOUR, 3)
        for call in self.CALLS:
            for lot in ((), (0,), (1,), [0, 1], (0, 3), (1, 3), (0, 1, 2)):
                self.wrong(BadLot, "place", -1, call, table, lot)
            self.wrong(BadLot, "place", -1, call, table, (0, 2), base=1)
            self.wrong(BadLot, "place", -1, call, table, (3,), base=1)
            self.assertEqual(len(call(table, (3, 1), base=1)), 3)
        self.assertEqual(subgroup_signs(table, (3, 1, 0, 2)), ((0, 1, 2, 3),) * 3)
        self.wrong(BadLot, "place", -1, normal_blocks, table, (3, 1, 0, 2))
        turned = square_of(TURNS)
        group = read_group(turned)
        normal = 0
        for lot in group.subgroups()[1:-1]:
            self.assertEqual(len(subgroup_signs(turned, lot)), 3)
            if group.is_normal(lot):
                self.assertEqual(len(normal_blocks(turned, lot)), 3)
                normal += 1
            else:
                self.wrong(BadLot, "place", -1, normal_blocks, turned, lot)
        self.assertEqual((normal, len(group.subgroups())), (1, 6))
        twelve = Table.parity(12, 3)
        self.assertEqual(len(normal_blocks(twelve, (0, 6))), 3)


if __name__ == "__main__":
    unittest.main()
