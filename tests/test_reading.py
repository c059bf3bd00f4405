"""Reading a circuit: [96], [106] and the section toldorfree/reading.py."""

import unittest

from tests.asking import Asking
from tests.samples import (BENT, FAIR, FIVE, FOUR, GROUPS, KLEIN, NO_INTEGERS, SORTS, UNFAIR, bent, drawn, four_points,
                           glue_plainly, plain_circuits, ring, shuffled, square, square_of)
from tests.wholes import TURNS, plain_element, plain_product, rest
from toldorfree.cuts import cuts_of
from toldorfree.errors import BadNumber, NotFair, OtherShape, TooMany
from toldorfree.fairness import is_latin
from toldorfree.groups import Group
from toldorfree.laid import ring_table
from toldorfree.ranks import hangs_together
from toldorfree.reading import elements_of, read_group, read_product
from toldorfree.tables import Table

CUBES = glue_plainly(FIVE, 2, FIVE, 0, drawn(5, 1)), glue_plainly(square_of(FOUR), 2, square_of(FOUR), 0, drawn(4, 2))
CIRCUITS = [table for table in FAIR + SORTS + CUBES if table.columns >= 3
            and plain_circuits(table) == [tuple(range(table.columns))]]
OTHERS = [table for table in FAIR + SORTS if table not in CIRCUITS]


def some_bases(table):
    return sorted({0, 1, table.many // 2, table.many - 1})


class ReadTest(Asking):
    def test_circuit_tables(self):
        self.assertGreater(len(CIRCUITS), 25)
        for table in CIRCUITS:
            self.assertTrue(is_latin(table) and hangs_together(table))
            if table.columns <= 6:
                sides = {lot for cut in cuts_of(table) for lot in (cut, rest(table, cut))}
                many = 2 ** table.columns - 2 - 2 * table.columns
                self.assertEqual(len(sides), many if table.columns >= 4 else 0)

    def test_elements(self):
        for table in CIRCUITS:
            for base in some_bases(table):
                wanted = tuple(tuple(plain_element(table, table[base], column, sign) for sign in range(table.signs))
                               for column in range(table.columns - 1)) if table.many <= 128 else None
                found = elements_of(table, base=base)
                self.is_tuples(found)
                self.assertEqual(len(found), table.columns - 1)
                self.assertIn(wanted, (None, found))
            self.assertEqual(elements_of(table), elements_of(table, base=0))
            self.assertEqual(elements_of(table, base=None), elements_of(table, base=0))

    def test_products(self):
        groups = set()
        for table in CIRCUITS:
            for base in some_bases(table):
                found = read_product(table, base=base)
                if table.many <= 256:
                    self.assertEqual(found, plain_product(table, table[base]))
                signs = list(range(table.signs))
                for line in found + tuple(zip(*found)):
                    self.assertEqual(sorted(line), signs)
                unit = table[base][-1]
                self.assertEqual((found[unit], tuple(line[unit] for line in found)), (tuple(signs),) * 2)
                closed = all(found[found[x][y]][z] == found[x][found[y][z]] for x in signs for y in signs for z in signs)
                group = read_group(table, base=base)
                self.assertEqual(group is not None, closed)
                if closed:
                    self.assertEqual((group.products, group.unit), (found, unit))
                groups.add(closed)
            self.assertEqual(read_product(table), read_product(table, base=0))
            self.assertEqual(read_product(table, base=None), read_product(table, base=0))
        self.assertEqual(groups, {True, False})

    def test_groups(self):
        for group in GROUPS.values():
            for table in (ring_table(group, 3), square_of(group), shuffled(ring_table(group, 3), 1)):
                for base in some_bases(table):
                    self.assertIsNotNone(read_group(table, base=base).isomorphism_to(group))
        self.assertEqual(read_group(square_of(TURNS)), TURNS)
        self.assertIsNone(read_group(FIVE))
        # a group is read from a table that is no ring in its order, at row 0 and not at all rows
        self.assertIsNotNone(read_group(BENT, base=0))

    def test_three_columns_and_many_signs(self):
        for signs in (13, 36):
            table = Table.parity(signs, 3)
            found = read_product(table, base=signs + 1)
            self.assertEqual(found, plain_product(table, table[signs + 1]))
            self.assertEqual(len(elements_of(table)), 2)
            self.wrong(TooMany, "limit", 12, read_group, table)
            self.wrong(BadNumber, "name", "base", read_group, table, base=-1)
            self.wrong(TooMany, "limit", 12, read_group, table, base=5)
        self.assertEqual(read_group(Table.parity(12, 3)).order_of(read_group(Table.parity(12, 3)).inverse(1)), 12)
        self.assertEqual(read_group(square(12, lambda x, y: (x + y) % 12)), Group.sums(12))

    def test_examples(self):
        table = ring_table(Group.sums(3), 3)
        self.assertEqual([elements_of(table), read_product(table), read_group(table) == Group.sums(3)],
                         [((0, 2, 1), (0, 2, 1)), ((0, 1, 2), (1, 2, 0), (2, 0, 1)), True])
        self.assertEqual([table[4], elements_of(table, base=4), read_group(table, base=4).unit],
                         [(1, 1, 1), ((2, 1, 0), (2, 1, 0)), 1])


class WrongTest(Asking):
    def test_bases_come_first(self):
        bad = UNFAIR[0]
        for call in (elements_of, read_product, read_group):
            for base in [value for value in NO_INTEGERS if value is not None] + [-1, 3]:
                self.wrong(BadNumber, "name", "base", call, bad, base=base)
            self.wrong(NotFair, "lot", (0, 1), call, bad, base=2)
            self.wrong(NotFair, "lot", (0, 1), call, bad)
            self.wrong(BadNumber, "name", "base", call, Table.full(2, 2), base=4)
            for table in UNFAIR:
                with self.assertRaises(NotFair):
                    call(table)

    def test_no_circuit(self):
        more = (Table.parity(2, 2), Table.full(3, 1), Table(4, [(1, 2, 3)]), Table.parity(3, 3).with_copy(1),
                four_points(KLEIN), Table.parity(13, 3).with_copy(0), Table.full(2, 3), bent(4, []) + Table(4, [(0,)]))
        for table in more + tuple(OTHERS):
            for call in (elements_of, read_product, read_group):
                self.wrong(OtherShape, "word", "circuit", call, table)
                self.wrong(OtherShape, "word", "circuit", call, table, base=table.many - 1)

    def test_rings_at_each_row(self):
        for table in (ring(TURNS, 4), ring(FOUR, 4).moved((2, 0, 3, 1)), shuffled(ring(KLEIN, 4), 3)):
            first = read_group(table)
            for base in range(0, table.many, 7):
                self.assertIsNotNone(read_group(table, base=base).isomorphism_to(first))


if __name__ == "__main__":
    unittest.main()
