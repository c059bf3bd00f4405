"""Blocks and coarse tables: [53] to [57] and the section toldorfree/coarse.py."""

import random
import unittest
from itertools import product

from tests.asking import Asking
from tests.samples import (BENT, FIVE, FOUR, KLEIN, NO_INTEGERS, NO_LISTS, SORTS, UNFAIR, four_points, parts,
                           plain_rank, ring, shuffled, square_of)
from toldorfree.coarse import block_of, coarse_blocks, coarse_table, is_coarse
from toldorfree.errors import BadBlocks, BadNumber, NoRow, NotFair, TooMany
from toldorfree.fairness import is_fair
from toldorfree.groups import Group
from toldorfree.inner import inner_tables, is_inner, relabelled
from toldorfree.naming import Renaming
from toldorfree.ranks import Ranks
from toldorfree.tables import Table

# tables with so few blocks that all can be tried
FEW = (
    Table.full(4, 1), Table.full(4, 2), Table.parity(4, 2), Table.parity(4, 3), square_of(KLEIN), BENT, BENT - (0,),
    shuffled(square_of(KLEIN), 3), shuffled(square_of(FOUR), 4), ring(FOUR, 4), SORTS[3], SORTS[4], Table(4, [(1, 3)]),
    Table(4, [(2,)]) + shuffled(Table.parity(4, 2), 2), Table.full(6, 1), Table.parity(6, 2), Table(6, [(3,)]),
    Table.parity(4, 2).with_copy(0) + Table(4, [(3,)]), Table(6, [(2,)]) + Table.full(6, 1), Table.full(6, 2),
)


def blocks_plainly(signs, size):
    """All blocks of this size at one column."""
    found = []

    def extend(entry):
        if len(entry) == signs:
            found.append(entry)
        for number in range(max(entry, default=-1) + 2):
            if len(entry) < signs and number < signs // size and entry.count(number) < size:
                extend(entry + (number,))

    extend(())
    return found


def fixed_at(table, column):
    return len(parts(table, (column,))) == 1


def plain_coarse(table, blocks):
    return {tuple(blocks[column][sign] for column, sign in enumerate(row)) for row in table}


def sizes(signs):
    return [size for size in range(2, signs) if signs % size == 0]


def all_blocks(table, size):
    """All blocks with x // size at the fixed columns, ascending."""
    each = [[tuple(sign // size for sign in range(table.signs))] if fixed_at(table, column)
            else blocks_plainly(table.signs, size) for column in range(table.columns)]
    return sorted(product(*each))


class CoarseTest(Asking):
    def test_all_blocks(self):
        for table in FEW:
            rank = plain_rank(table, range(table.columns))
            for size in sizes(table.signs):
                many, wanted = table.signs // size, []
                for blocks in all_blocks(table, size):
                    rows = plain_coarse(table, blocks)
                    self.assertGreaterEqual(len(rows), many ** rank)
                    if len(rows) == many ** rank:
                        wanted.append(blocks)
                self.assertEqual(coarse_blocks(table, size), tuple(wanted))
                self.is_tuples(coarse_blocks(table, size))

    def test_three_ways_to_be_coarse(self):
        for table in FEW:
            rank = plain_rank(table, range(table.columns))
            for size in sizes(table.signs):
                some = all_blocks(table, size)
                for blocks in some[::max(1, len(some) // 25)] + list(coarse_blocks(table, size))[:10]:
                    rows = plain_coarse(table, blocks)
                    coarse = len(rows) == (table.signs // size) ** rank
                    listed = [list(entry) for entry in blocks]
                    self.assertIs(is_coarse(table, listed), coarse)
                    found = coarse_table(table, listed)
                    self.assertEqual((found.signs, set(found.rows)), (table.signs // size, rows))
                    self.assertIs(is_fair(found) and Ranks(found) == Ranks(table), coarse)
                    each = [sum(plain_coarse(Table(table.signs, [row]), blocks) == {again} for row in table)
                            for again in rows]
                    self.assertIs(set(each) == {size ** rank}, coarse)

    def test_other_numbers_at_fixed_columns(self):
        table = Table.parity(4, 2) + Table(4, [(3,)])
        blocks = ((0, 1, 0, 1), (0, 1, 0, 1), (0, 1, 1, 0))
        self.assertIs(is_coarse(table, blocks), True)
        self.assertNotIn(blocks, coarse_blocks(table, 2))
        self.assertIn(blocks[:2] + ((0, 0, 1, 1),), coarse_blocks(table, 2))

    def test_numbers_of_blocks(self):
        self.assertEqual(len(coarse_blocks(square_of(KLEIN), 2)), 3)
        self.assertEqual(len(coarse_blocks(four_points(KLEIN), 2)), 3)
        self.assertEqual(len(coarse_blocks(four_points(FOUR), 2)), 1)
        self.assertEqual(coarse_blocks(square_of(Group.turns()), 2), ())
        self.assertEqual(len(coarse_blocks(square_of(Group.turns()), 3)), 1)
        nine = coarse_blocks(shuffled(Table.parity(9, 2), 2), 3)
        self.assertEqual(nine, tuple(sorted(set(nine))))
        self.assertEqual(len(coarse_blocks(Table.parity(9, 2), 3)), 280)
        self.assertEqual(coarse_blocks(Table(6, [(2, 0)]), 3), (((0, 0, 0, 1, 1, 1),) * 2,))

    def test_any_table_has_coarse_rows(self):
        chance = random.Random(1)
        for table in [table for table in UNFAIR if table.signs in (4, 6)]:
            for size in sizes(table.signs):
                blocks = [chance.choice(blocks_plainly(table.signs, size)) for _ in range(table.columns)]
                self.assertEqual(set(coarse_table(table, blocks).rows), plain_coarse(table, blocks))

    def test_block_of(self):
        for table in FEW:
            for size in sizes(table.signs):
                for blocks in all_blocks(table, size)[::29] + list(coarse_blocks(table, size))[:3]:
                    for row in table.rows[::7]:
                        wanted = tuple((sign,) if fixed_at(table, column) else
                                       tuple(x for x in range(table.signs) if blocks[column][x] == blocks[column][sign])
                                       for column, sign in enumerate(row))
                        self.assertEqual(block_of(table, list(blocks), list(row)), wanted)
                        self.is_tuples(block_of(table, blocks, row))

    def test_blocks_are_inner_tables(self):
        for table in FEW + (square_of(Group.turns()), four_points(KLEIN)):
            rank = plain_rank(table, range(table.columns))
            for size in sizes(table.signs):
                for blocks in coarse_blocks(table, size)[:3]:
                    found = {block_of(table, blocks, row) for row in table}
                    self.assertEqual(len(found), table.signs ** rank // size ** rank)
                    for chosen in sorted(found)[:12]:
                        self.assertIs(is_inner(table, chosen), True)

    def test_coarse_twice(self):
        for table, blocks in ((Table.parity(8, 3), [x % 4 for x in range(8)]),
                              (Table.parity(12, 3), [x % 6 for x in range(12)]),
                              (Table.parity(12, 3), [x % 4 for x in range(12)]),
                              (square_of(KLEIN) * Table.parity(3, 3), [x // 3 for x in range(12)])):
            self.check_twice(table, [blocks] * table.columns)
        for blocks in coarse_blocks(Table.parity(8, 2), 2)[::5]:
            self.check_twice(Table.parity(8, 2), blocks)

    def check_twice(self, table, blocks):
        """The coarse table of a coarse table is coarse for the table itself."""
        self.assertIs(is_coarse(table, blocks), True)
        found = coarse_table(table, blocks)
        late = [more for size in sizes(found.signs) for more in coarse_blocks(found, size)]
        self.assertTrue(late)
        for more in late[:6]:
            both = [[more[column][blocks[column][x]] for x in range(table.signs)] for column in range(table.columns)]
            self.assertIs(is_coarse(table, both), True)

    def test_pairs(self):
        for one, other in ((Table.parity(2, 3), Table.parity(3, 3)), (FIVE, Table.parity(2, 3)), (BENT, Table.parity(2, 4)),
                           (Table(2, [(1,)]) + Table.parity(2, 2), Table(3, [(2,)]) + Table.parity(3, 2))):
            table, low = one * other, other.signs
            blocks = [[x // low for x in range(table.signs)]] * table.columns
            self.assertIs(is_coarse(table, blocks), True)
            self.assertEqual(coarse_table(table, blocks), one)
            for row in one.rows[::3]:
                chosen = [[table[0][column]] if fixed_at(table, column) else
                          [x for x in range(table.signs) if x // low == sign] for column, sign in enumerate(row)]
                self.assertIs(is_inner(table, chosen), True)
                wanted = [tuple(0 if fixed_at(other, column) else sign for column, sign in enumerate(row)) for row in other]
                self.assertEqual(relabelled(table, chosen).rows, tuple(wanted))

    def test_halves(self):
        for table in (Table.parity(4, 3), BENT, square_of(KLEIN), Table.full(4, 2), Table(4, [(3,)]) + Table.parity(4, 2),
                      Table.parity(6, 3), Table.parity(2, 2) * Table.parity(3, 2)):
            half = table.signs // 2
            for chosen in inner_tables(table, half):
                blocks = []
                for column, entry in enumerate(chosen):
                    marks = [x in entry for x in range(table.signs)]
                    blocks.append([x // half if fixed_at(table, column) else int(mark != marks[0])
                                   for x, mark in enumerate(marks)])
                self.assertIs(is_coarse(table, blocks), True)
                self.assertIn(tuple(map(tuple, blocks)), coarse_blocks(table, half))

    def test_names(self):
        for number, table in enumerate(FEW):
            for size in sizes(table.signs):
                turned = shuffled(table, number + 50)
                self.assertEqual(len(coarse_blocks(table, size)), len(coarse_blocks(turned, size)))
        names = Renaming([(1, 2, 3, 0), (3, 1, 0, 2), (0, 2, 1, 3)])
        turned = Table(4, [names(row) for row in Table.parity(4, 3)])
        (blocks,) = coarse_blocks(Table.parity(4, 3), 2)
        wanted = []
        for column, entry in enumerate(blocks):
            new = [entry[(~names)[column][x]] for x in range(4)]
            wanted.append(tuple(int(number != new[0]) for number in new))
        self.assertEqual(coarse_blocks(turned, 2), (tuple(wanted),))

    def test_example(self):
        table = Table.parity(4, 3)
        blocks = coarse_blocks(table, 2)
        self.assertEqual([blocks, coarse_table(table, blocks[0]) == Table.parity(2, 3),
                          block_of(table, blocks[0], (0, 1, 3))],
                         [(((0, 1, 0, 1), (0, 1, 0, 1), (0, 1, 0, 1)),), True, ((0, 2), (1, 3), (1, 3))])


class WrongTest(Asking):
    def refuses(self, column, table, blocks):
        self.wrong(BadBlocks, "column", column, coarse_table, table, blocks)
        self.wrong(BadBlocks, "column", column, is_coarse, table, blocks)
        self.wrong(BadBlocks, "column", column, block_of, table, blocks, None)

    def test_no_blocks(self):
        table = UNFAIR[9]
        right = (0, 1, 1, 0)
        for blocks in NO_LISTS + ((), [], [right], (right,) * 3):
            self.refuses(-1, table, blocks)
        wrong = NO_LISTS + ((), (0, 1), (0, 0, 1, 1, 2, 2), (1, 0, 0, 1), (0, 2, 2, 0), (0, 0, 0, 1), (0, 1, 2, 3),
                            (0, 0, 0, 0), (0, 1, 1, 1), (0, 0, 1, 2), [0, 0, 1, -1], (0, 0, 1, 9), (0, False, 1, 1))
        for entry in wrong + tuple((0, 0, 1, x) for x in NO_INTEGERS):
            self.refuses(0, table, [entry, None])
            self.refuses(1, table, (right, entry))
        self.wrong(NotFair, "lot", (1,), is_coarse, table, (right, right))
        self.wrong(NotFair, "lot", (1,), block_of, table, (right, right), None)
        self.assertEqual(coarse_table(table, [right, right]).rows, ((0, 0), (0, 1), (1, 1)))

    def test_blocks_of_two_sizes(self):
        table = Table.full(6, 2)
        two, three = (0, 0, 1, 1, 2, 2), [0, 1, 0, 1, 0, 1]
        self.refuses(1, table, (two, three))
        self.refuses(1, table, [three, two])
        self.assertIs(is_coarse(table, [two, two]), True)
        for entry in ((0, 1, 2, 3, 4, 5), (0, 0, 0, 0, 0, 0), (0, 0, 0, 0, 1, 1), (0, 0, 1, 1, 2, 1)):
            self.refuses(0, table, (entry, entry))
        self.refuses(0, Table.full(5, 1), [(0, 0, 1, 1, 2)])
        self.refuses(0, Table.full(2, 1), [(0, 1)])

    def test_no_rows(self):
        blocks = [(0, 1, 0, 1)] * 2
        for row in NO_LISTS + ((0,), (0, 1), (0, 0, 0), (True, 3), [4, 0], "00"):
            self.wrong(NoRow, "row", row, block_of, Table.parity(4, 2), blocks, row)

    def test_sizes(self):
        for size in NO_INTEGERS + (-2, 0, 1, 4, 5, 6, 7, 12):
            self.wrong(BadNumber, "name", "size", coarse_blocks, Table(6, [(0,), (2,)]), size)
        for table in (Table.full(2, 1), Table.full(3, 1), Table.full(5, 2)):
            for size in (1, 2, 3, 5):
                self.wrong(BadNumber, "name", "size", coarse_blocks, table, size)
        self.wrong(BadNumber, "name", "size", coarse_blocks, Table.full(4, 1), 4)
        self.wrong(NotFair, "lot", (1,), coarse_blocks, UNFAIR[9], 2)

    def test_too_many(self):
        # one column of 8 signs can be put into pairs in 105 ways, into fours in 35
        self.wrong(TooMany, "limit", 5000, coarse_blocks, Table.full(8, 2), 2)
        self.assertEqual(len(coarse_blocks(Table.full(8, 2), 4)), 1225)
        self.assertEqual(len(coarse_blocks(Table.full(8, 1), 2)), 105)
        self.wrong(TooMany, "limit", 5000, coarse_blocks, Table.full(36, 1), 2)
        self.wrong(TooMany, "limit", 5000, coarse_blocks, Table.full(6, 4), 3)
        # 15 ways at each of three columns are 3375, 10 ways 1000
        self.assertEqual(len(coarse_blocks(Table.full(6, 3), 2)), 3375)
        self.assertEqual(len(coarse_blocks(Table.parity(6, 4), 2)), 1)
        self.assertEqual(len(coarse_blocks(Table.full(6, 3), 3)), 1000)
        self.assertEqual(len(coarse_blocks(Table.full(12, 1), 6)), 462)
        self.wrong(TooMany, "limit", 5000, coarse_blocks, Table.full(12, 1), 4)
        self.wrong(NotFair, "lot", (0,), coarse_blocks, Table(36, [(0,), (1,)]), 2)
        self.assertEqual(len(coarse_blocks(Table(36, [(0, 7)]), 2)), 1)


if __name__ == "__main__":
    unittest.main()
