"""Rings: [96], [107] to [111], [118] and the section toldorfree/rings.py."""

import random
import unittest
from itertools import permutations

from tests.asking import Asking
from tests.samples import (BENT, FIVE, FOUR, GROUPS, KLEIN, NO_INTEGERS, UNFAIR, all_lots, bent, drawn, four_points,
                           glue_plainly, plain_classes, plain_meet, ring, shuffled, square, square_of)
from tests.test_reading import CIRCUITS, OTHERS
from tests.wholes import TURNS, plain_element, plain_product, plain_splits, rest, runs
from toldorfree.cuts import crosses, is_split, splits_of
from toldorfree.errors import BadNumber, NotFair, OtherShape, TooMany
from toldorfree.foursomes import foursomes
from toldorfree.glue import glued
from toldorfree.groups import Group
from toldorfree.holding import held
from toldorfree.laid import is_laid, ring_table
from toldorfree.matching import equal_up_to_names
from toldorfree.meeting import meets
from toldorfree.naming import Renaming, renamed
from toldorfree.ranks import Ranks
from toldorfree.reading import elements_of, read_group
from toldorfree.rings import is_ring, neighbours_split, ring_group, ring_order, same_ring
from toldorfree.tables import Table
from toldorfree.trees import tree_of

RING = ring(TURNS, 4)
# cubes with no ring order, rings in other orders, and rings of many columns
MORE = [RING.moved(order) for order in ((0, 2, 1, 3), (2, 1, 0, 3), (3, 0, 1, 2))] + [
    shuffled(RING, 4), ring(GROUPS["3"], 5), shuffled(ring(FOUR, 4), 2).moved((3, 1, 0, 2)), bent(5, []),
    shuffled(bent(4, [(0,)]), 1), glue_plainly(square_of(FOUR), 2, square_of(KLEIN), 0, drawn(4, 3)),
    glue_plainly(square_of(KLEIN), 2, square_of(KLEIN), 0, drawn(4, 3)),
    glue_plainly(square_of(TURNS), 2, square_of(TURNS), 1, drawn(6, 3)),
    glue_plainly(square_of(TURNS), 2, square_of(TURNS), 1, range(6))]
TABLES = CIRCUITS + MORE


def plain_is_ring(table, base=0):
    """Whether the read product at the row is a group's, and each last sign is the product of the elements."""
    row = table[base]
    products = plain_product(table, row)
    signs = range(table.signs)
    if any(products[products[x][y]][z] != products[x][products[y][z]] for x in signs for y in signs for z in signs):
        return False
    named = [[plain_element(table, row, column, sign) for sign in signs] for column in range(table.columns - 1)]
    for found in table:
        value = named[0][found[0]]
        for column in range(1, table.columns - 1):
            value = products[value][named[column][found[column]]]
        if value != found[-1]:
            return False
    return True


def plain_order(table):
    """The least order that begins with 0 and makes the table a ring."""
    for order in permutations(range(1, table.columns)):
        if plain_is_ring(table.moved((0,) + order)):
            return (0,) + order
    return None


class RingTest(Asking):
    def test_is_ring(self):
        answers = set()
        for table in TABLES:
            wanted = plain_is_ring(table)
            self.assertIs(is_ring(table), wanted)
            for base in (1, table.many // 2, table.many - 1):
                if table.many <= 128:
                    self.assertIs(plain_is_ring(table, base), wanted)
            answers.add((wanted, table.columns >= 4))
        self.assertEqual(answers, {(True, True), (True, False), (False, True), (False, False)})

    def test_rings_of_four_columns_and_more(self):
        for table in TABLES:
            if 4 <= table.columns <= 6:
                wanted = is_ring(table)
                self.assertIs(neighbours_split(table), wanted)
                self.assertIs(runs(range(table.columns)) <= set(plain_splits(table)), wanted)
                if wanted:
                    self.assertTrue(equal_up_to_names(table, ring_table(read_group(table), table.columns)))
                else:
                    for group in GROUPS.values():
                        if group.size == table.signs and table.many < 200:
                            self.assertFalse(equal_up_to_names(table, ring_table(group, table.columns)))

    def test_rings_of_three_columns(self):
        for table in TABLES:
            if table.columns == 3:
                read = {read_group(table, base=base) is not None for base in range(0, table.many, 3)}
                self.assertEqual(read, {is_ring(table)})
                if is_ring(table):
                    self.assertTrue(equal_up_to_names(table, ring_table(read_group(table), 3)))
        self.assertIs(is_ring(FIVE), False)

    def test_a_group_is_not_enough(self):
        self.assertIsNotNone(read_group(BENT))
        self.assertEqual([is_ring(BENT), ring_order(BENT), ring_group(BENT), neighbours_split(BENT)],
                         [False, None, None, False])

    def test_groups_of_rings(self):
        for table in TABLES:
            if is_ring(table):
                group = read_group(table)
                ways = [tuple(range(1, table.columns)) + (0,), tuple(range(table.columns))[::-1]]
                for way in ways:
                    self.assertIs(is_ring(table.moved(way)), True)
                    self.assertIsNotNone(read_group(table.moved(way)).isomorphism_to(group))
                if table.columns >= 4:
                    held_ones = [held(table, column, sign) for column in (0, table.columns - 2) for sign in (0, 1)]
                    for smaller in held_ones:
                        self.assertIs(is_ring(smaller), True)
                        self.assertIsNotNone(read_group(smaller).isomorphism_to(group))
                    self.assertTrue(equal_up_to_names(*held_ones[:2]) and equal_up_to_names(*held_ones[2:]))

    def test_paired_rings(self):
        for one, other in (("2", "3"), ("2", "2"), ("3", "4"), ("5", "2"), ("2", "turns"), ("klein", "3")):
            one, other = GROUPS[one], GROUPS[other]
            for columns in (2, 3):
                table = ring_table(one, columns) * ring_table(other, columns)
                self.assertEqual(table, ring_table(one * other, columns))
        self.assertEqual(ring_table(GROUPS["2"], 4) * ring_table(FOUR, 4), ring_table(GROUPS["2"] * FOUR, 4))


class OrderTest(Asking):
    def test_orders(self):
        found = set()
        for table in TABLES:
            if table.many <= 256 and table.columns <= 5:
                wanted = plain_order(table)
                self.assertEqual(ring_order(table), wanted)
                self.is_tuples(wanted)
                found.add(wanted)
        self.assertLessEqual({None, (0, 1, 2), (0, 1, 2, 3), (0, 2, 1, 3), (0, 1, 2, 3, 4)}, found)
        turned = ring(TURNS, 5).moved((2, 0, 4, 1, 3))
        self.assertEqual(ring_order(turned), plain_order(turned))

    def test_which_tables_have_one(self):
        for table in TABLES:
            if table.columns >= 4:
                tree = tree_of(table)
                order = ring_order(table)
                self.assertIs(order is not None, len(tree) == 1 and tree.sorts() in (("star",), ("ring",)))
                splits = splits_of(table)
                crossed = all(any(crosses(one, other, table.columns) for other in splits) for one in splits)
                self.assertIs(order is not None, bool(splits) and crossed)

    def test_all_orders(self):
        for table in TABLES:
            if table.columns <= 4 and ring_order(table) is not None:
                ways = [(0,) + order for order in permutations(range(1, table.columns))
                        if is_ring(table.moved((0,) + order))]
                if table.columns == 3 or ring_group(table).is_abelian():
                    self.assertEqual(len(ways), (1, 2, 6)[table.columns - 2])
                else:
                    self.assertEqual((len(ways), ways[1][1:]), (2, ways[0][:0:-1]))

    def test_groups_in_order(self):
        for table in TABLES:
            order = ring_order(table)
            if order is None:
                self.assertIsNone(ring_group(table))
                self.assertIsNone(ring_group(table, base=table.many - 1))
            else:
                moved = table.moved(order)
                self.assertEqual(ring_group(table), read_group(moved, base=0))
                for base in (0, 1, table.many - 1):
                    self.assertEqual(ring_group(table, base=base).products, plain_product(moved, moved[base]))
        self.assertIsNotNone(ring_group(RING.moved((0, 2, 1, 3)), base=None).isomorphism_to(TURNS))

    def test_examples(self):
        table = square_of(Group.sums(4))
        self.assertEqual([ring_order(glued(table, 2, table, 2)), ring_order(glued(table, 2, table, 2, names=(0, 2, 1, 3)))],
                         [(0, 1, 2, 3), None])
        self.assertEqual([is_ring(table), same_ring(table, ring_table(Group.sums(2) * Group.sums(2), 3))], [True, False])


class AbelianTest(Asking):
    def test_abelian_rings(self):
        answers = set()
        for table in TABLES:
            if table.columns in (4, 5) and is_ring(table) and table.many <= 256:
                abelian = read_group(table).is_abelian()
                self.assertEqual({read_group(table, base=base).is_abelian() for base in range(0, table.many, 11)},
                                 {abelian})
                splits = set(plain_splits(table))
                self.assertIs(len(splits) == 2 ** (table.columns - 1) - 1 - table.columns, abelian)
                self.assertIs(bool(splits - runs(range(table.columns))), abelian)
                for at in range(table.columns - 1):
                    order = list(range(table.columns))
                    order[at], order[at + 1] = at + 1, at
                    self.assertIs(is_ring(table.moved(order)), abelian)
                self.check_laid(table, abelian)
                answers.add(abelian)
        self.assertEqual(answers, {True, False})

    def check_laid(self, table, abelian):
        """The table with elements in the place of the signs is laid by the group exactly if it is abelian."""
        for base in (0, table.many - 1):
            names = list(elements_of(table, base=base)) + [tuple(range(table.signs))]
            group = read_group(table, base=base)
            self.assertIs(is_laid(renamed(table, Renaming(names)), [group] * table.columns), abelian)

    def test_exchanged_columns(self):
        for table in (ring(FOUR, 4), shuffled(ring(GROUPS["3"], 4), 1)):
            self.assertTrue(equal_up_to_names(table, table.moved((0, 2, 1, 3))))
        self.assertFalse(equal_up_to_names(RING, RING.moved((0, 2, 1, 3))))

    def test_lots_of_a_ring(self):
        chance = random.Random(6)
        for table in (RING, shuffled(RING, 1), ring(FOUR, 4), ring(GROUPS["3"], 5), ring(KLEIN, 4)):
            group = read_group(table)
            many = table.columns
            lots = all_lots(many)
            pairs = [(x, y) for x in lots for y in lots]
            for x, y in chance.sample(pairs, 70) + [((0, 2), (1, 3)), ((1, 3, 0), (0, 2)), ((0, 1, 2), (2, 3, 0))]:
                self.check_lots(table, group, x, y)
                self.check_lots(table, group, x, tuple(sorted(set(rest(table, x)) | set(y[:1]))))

    def check_lots(self, table, group, x, y):
        many = table.columns
        x, y = tuple(sorted(x)), tuple(sorted(y))
        shared = len(set(x) & set(y))
        classes = len(set(plain_classes(table, x, y)))
        meet = classes == table.signs ** plain_meet(table, x, y)
        self.assertIs(meets(table, x, y), meet)
        if len(set(x) | set(y)) < many or max(len(x), len(y)) >= many - 1:
            self.assertTrue(meet)
            return
        self.assertEqual(plain_meet(table, x, y), shared + 1)
        if group.is_abelian() or self.follow(set(x) - set(y), sorted(set(x) ^ set(y))):
            self.assertTrue(meet)
        else:
            self.assertEqual(classes * len(group.commutators()), table.signs ** (shared + 1))

    def follow(self, lot, circle):
        """Whether the columns of lot follow one another in the circle."""
        steps = sum(circle[at] in lot and circle[at - 1] not in lot for at in range(len(circle)))
        return steps <= 1

    def test_foursomes_of_rings(self):
        for group, conjugates in ((TURNS, 3), (FOUR, 4), (GROUPS["3"], 3)):
            found = {tuple(sorted({group.product_of((group.inverse(z), x, z)) for z in range(group.size)}))
                     for x in range(group.size)}
            self.assertEqual(len(found), conjugates)
            self.assertEqual(foursomes(ring_table(group, 4), (0, 2), (1, 3)), group.size ** 4 * conjugates)


class SameTest(Asking):
    def test_same_rings(self):
        tables = [ring_table(group, columns) for group in GROUPS.values() for columns in (3, 4)]
        tables += [shuffled(tables[6], 1), BENT, FIVE, RING.moved((0, 2, 1, 3)), square_of(TURNS), bent(4, [])]
        groups = [read_group(table) if plain_is_ring(table) else None for table in tables]
        for one, first in zip(tables, groups):
            for other, second in zip(tables, groups):
                same = (first is not None and second is not None and one.columns == other.columns
                        and one.signs == other.signs and first.isomorphism_to(second) is not None)
                self.assertIs(same_ring(one, other), same)
        self.assertIs(same_ring(RING.moved((0, 2, 1, 3)), RING.moved((0, 2, 1, 3))), False)
        self.assertIs(same_ring(ring(FOUR, 4), bent(4, [])), False)
        self.assertIs(same_ring(ring(KLEIN, 4), bent(4, [])), True)

    def test_equal_up_to_names(self):
        for columns in (3, 4):
            tables = [ring_table(group, columns) for group in (FOUR, KLEIN)]
            self.assertFalse(equal_up_to_names(*tables))
        self.assertFalse(equal_up_to_names(ring_table(TURNS, 3), ring_table(GROUPS["6"], 3)))
        self.assertTrue(equal_up_to_names(ring_table(GROUPS["2"] * GROUPS["3"], 3), ring_table(GROUPS["6"], 3)))

    def test_wrong(self):
        bad, good, loose, many = UNFAIR[0], ring(FOUR, 4), four_points(KLEIN), Table.parity(13, 3)
        for values in ((bad, bad), (bad, loose), (good, bad), (loose, bad), (many, bad), (bad, good)):
            self.wrong(NotFair, "lot", (0, 1), same_ring, *values)
        # the first table is asked first
        self.wrong(NotFair, "lot", (0, 2), same_ring, UNFAIR[3], bad)
        for values in ((loose, good), (good, loose), (many, loose), (loose, many)):
            self.wrong(OtherShape, "word", "circuit", same_ring, *values)
        for values in ((many, good), (good, many), (many, many)):
            self.wrong(TooMany, "limit", 12, same_ring, *values)


class WrongTest(Asking):
    def test_tables(self):
        for call in (is_ring, ring_order, ring_group, neighbours_split):
            for table in UNFAIR:
                with self.assertRaises(NotFair):
                    call(table)
            self.wrong(NotFair, "lot", (0, 1), call, UNFAIR[0])
            for table in OTHERS + [Table.parity(2, 2), Table.full(2, 1), Table.parity(13, 3).with_copy(0)]:
                self.wrong(OtherShape, "word", "circuit", call, table)

    def test_many_signs(self):
        for signs in (13, 36):
            for call in (is_ring, ring_order, ring_group):
                self.wrong(TooMany, "limit", 12, call, Table.parity(signs, 3))
            self.wrong(OtherShape, "word", "circuit", neighbours_split, Table.parity(signs, 3))
        twelve = Table.parity(12, 3)
        self.assertEqual([is_ring(twelve), ring_order(twelve), ring_group(twelve).size], [True, (0, 1, 2), 12])
        self.assertIs(is_ring(square(7, lambda x, y: (x + 3 * y) % 7)), True)
        self.assertIs(neighbours_split(Table.parity(10, 4)), True)

    def test_three_columns_have_no_neighbours(self):
        for table in (FIVE, Table.parity(2, 3), square_of(TURNS)):
            self.wrong(OtherShape, "word", "circuit", neighbours_split, table)

    def test_bases(self):
        for base in [value for value in NO_INTEGERS if value is not None] + [-1, 3]:
            self.wrong(BadNumber, "name", "base", ring_group, UNFAIR[0], base=base)
        self.wrong(BadNumber, "name", "base", ring_group, Table.parity(13, 3), base=169)
        self.wrong(BadNumber, "name", "base", ring_group, BENT, base=64)
        self.assertIsNone(ring_group(BENT, base=63))
        self.assertIs(is_split(BENT, (0, 1)), False)
        self.assertEqual(Ranks(BENT).total, 3)


if __name__ == "__main__":
    unittest.main()
