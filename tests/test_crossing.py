"""Two splits that cross: [92], [97] and the section toldorfree/crossing.py."""

import unittest
from itertools import combinations

from tests.asking import Asking
from tests.samples import (BENT, FOUR, GROUPS, NO_INTEGERS, UNFAIR, all_lots, bent, plain_circuits, plain_classes,
                           plain_meet, plain_rank, plain_latin, ring)
from tests.wholes import (LOOSE, TREES, TURNS, plain_crosses, plain_cuts, plain_piece_table, plain_product,
                          plain_splits, rest)
from toldorfree.crossing import crossing_group, crossing_kind, quarter_table, quarters, third
from toldorfree.cuts import is_split
from toldorfree.errors import BadLot, BadNumber, NotCut, NotFair, NotSplit, NotWhole, OtherShape
from toldorfree.groups import Group
from toldorfree.laid import ring_table
from toldorfree.ranks import hanging_parts
from toldorfree.tables import Table

RING = ring(TURNS, 4)
EQUAL = Table(2, [(0, 1, 0, 0, 1), (1, 0, 1, 1, 0)])


def plain_quarters(one, other, columns):
    one, other = set(one), set(other)
    found = (one - other, one & other, other - one, set(range(columns)) - one - other)
    return tuple(tuple(sorted(lot)) for lot in found)


def crossing_pairs(many=400):
    """Tables with two splits that cross, by any of their sides."""
    for number, table in enumerate(TREES):
        pairs = [(one, other) for one, other in combinations(plain_splits(table), 2)
                 if plain_crosses(one, other, table.columns)]
        for place, (one, other) in enumerate(pairs[::max(1, len(pairs) // 5)]):
            if (number + place) % 2:
                one, other = other, rest(table, one)
            yield table, one, other


class LotsTest(Asking):
    def test_quarters(self):
        for columns in (3, 4, 5):
            for one in all_lots(columns):
                for other in all_lots(columns)[::1 if columns < 5 else 3]:
                    if plain_crosses(one, other, columns):
                        found = quarters(list(one), other[::-1], columns)
                        self.assertEqual(found, plain_quarters(one, other, columns))
                        self.is_tuples(found)
                    else:
                        self.wrong(OtherShape, "word", "crossing", quarters, one, other, columns)
        self.assertEqual(quarters([0, 7, 3], (3, 4), 8), ((0, 7), (3,), (4,), (1, 2, 5, 6)))

    def test_third(self):
        for one in all_lots(4):
            for other in all_lots(4):
                wanted = tuple(sorted(set(one) ^ set(other)))
                self.assertEqual(third(one[::-1], list(other), 4), wanted)
        self.assertEqual([third((0,), (0,), 1), third((), (), 8), third((7,), [], 8)], [(), (), (7,)])

    def test_wrong_columns_and_lots(self):
        for call in (quarters, third):
            for columns in NO_INTEGERS + (-1, 0, 9):
                self.wrong(BadNumber, "name", "columns", call, None, None, columns)
            self.wrong_lots(4, lambda lot: call(lot, None, 4))
            self.wrong_lots(4, lambda lot: call((3, 0), lot, 4))


class CrossingTest(Asking):
    def test_quarters_of_splits(self):
        kinds = set()
        for table, one, other in crossing_pairs():
            lots = quarters(one, other, table.columns)
            for lot in lots:
                self.assertTrue(len(lot) == 1 or {lot, rest(table, lot)} & set(plain_splits(table)), lots)
            found = quarter_table(table, list(one[::-1]), other)
            self.assertEqual(found, plain_piece_table(table, lots))
            kinds.add((crossing_kind(table, one, list(other)), max(map(len, lots)) > 1))
        self.assertEqual(kinds, {("equal", False), ("equal", True), ("group", False), ("group", True)})

    def test_equal_kind(self):
        for table, one, other in crossing_pairs():
            found = quarter_table(table, one, other)
            equal = plain_rank(found, range(4)) == 1
            self.assertEqual(crossing_kind(table, one, other), "equal" if equal else "group")
            if equal:
                lot = third(one, other, table.columns)
                self.assertIs(is_split(table, lot), True)
                self.wrong(OtherShape, "word", "group", crossing_group, table, one, other)
                self.wrong(OtherShape, "word", "group", crossing_group, table, one, other, base="x")

    def test_group_kind(self):
        groups = set()
        for table, one, other in crossing_pairs():
            if crossing_kind(table, one, other) == "group":
                found = quarter_table(table, one, other)
                lots = quarters(one, other, table.columns)
                self.assertEqual(plain_circuits(found), [(0, 1, 2, 3)])
                self.assertTrue(plain_latin(found))
                for early, late in combinations(lots, 2):
                    self.assertEqual(plain_meet(table, early, late), 0)
                for base in (0, len(found) // 2, len(found) - 1):
                    group = crossing_group(table, one, other, base=base)
                    self.assertEqual(group.products, plain_product(found, found[base]))
                    self.check_ring(found, found[base], group)
                self.assertEqual(crossing_group(table, one, other), crossing_group(table, one, other, base=0))
                self.check_third(table, lots, third(one, other, table.columns), group)
                groups.add((group.size, group.is_abelian(), group.has_exponent_two()))
        self.assertEqual(groups, {(2, True, True), (3, True, False), (4, True, False), (4, True, True),
                                  (5, True, False), (6, False, False)})

    def check_ring(self, found, base, group):
        """The quarter table is a ring in its order: the last sign is the product of the elements of the others."""
        read = [{} for _ in range(3)]
        for row in found:
            for column in range(3):
                if all(row[other] == base[other] for other in range(3) if other != column):
                    read[column][row[column]] = row[3]
        self.assertEqual(group.unit, base[3])
        for row in found:
            self.assertEqual(group.product_of([read[column][row[column]] for column in range(3)]), row[3])

    def check_third(self, table, lots, lot, group):
        self.assertIn(lot if 0 in lot else rest(table, lot), plain_cuts(table))
        many = len(set(plain_classes(table, lot, rest(table, lot))))
        self.assertEqual(many * len(group.commutators()), table.signs)
        self.assertIs(is_split(table, lot), group.is_abelian())
        self.assertEqual(set(lots[0] + lots[2]), set(lot))

    def test_lots_of_quarters_meet(self):
        for table, one, other in list(crossing_pairs())[::2] + [(RING, (0, 1), (1, 2))]:
            if crossing_kind(table, one, other) == "group":
                lots = quarters(one, other, table.columns)
                abelian = crossing_group(table, one, other).is_abelian()
                for x in all_lots(4):
                    for y in all_lots(4):
                        early, late = [tuple(sorted(sum([lots[place] for place in some], ()))) for some in (x, y)]
                        many = len(set(plain_classes(table, early, late)))
                        meet = many == table.signs ** plain_meet(table, early, late)
                        self.assertIs(meet, abelian or {x, y} != {(0, 2), (1, 3)})

    def test_bases(self):
        group = crossing_group(RING, (0, 1), (0, 3))
        self.assertIsNotNone(group.isomorphism_to(TURNS))
        for base in (1, 77, 215):
            again = crossing_group(RING, (0, 1), (0, 3), base=base)
            self.assertEqual(again.unit, quarter_table(RING, (0, 1), (0, 3))[base][3])
            self.assertIsNotNone(again.isomorphism_to(group))
        for base in [value for value in NO_INTEGERS if value is not None] + [-1, 216]:
            self.wrong(BadNumber, "name", "base", crossing_group, RING, (0, 1), (0, 3), base=base)
        # the rows of the quarter table count, not those of the table
        long = Table.parity(2, 6)
        self.assertEqual(crossing_group(long, (0, 1), (1, 2), base=7).unit, 1)
        self.wrong(BadNumber, "name", "base", crossing_group, long, (0, 1), (1, 2), base=8)
        copied = RING.with_copy(1)
        self.assertEqual(crossing_group(copied, (0, 1, 4), (0, 3), base=215).size, 6)
        self.wrong(BadNumber, "name", "base", crossing_group, copied, (0, 1, 4), (0, 3), base=216)

    def test_example(self):
        table = ring_table(Group.turns(), 4)
        group = crossing_group(table, (0, 1), (0, 3))
        self.assertEqual([quarters((0, 1), (0, 3), 4), group.is_abelian(), is_split(table, (0, 2))],
                         [((1,), (0,), (3,), (2,)), False, False])


class WrongTest(Asking):
    CALLS = (quarter_table, crossing_kind, crossing_group)

    def test_lots_come_first(self):
        bad = UNFAIR[-1]
        for call in self.CALLS:
            self.wrong_lots(6, lambda lot: call(bad, lot, None))
            self.wrong_lots(6, lambda lot: call(bad, (), lot))
            self.wrong(NotFair, "lot", (3, 4), call, bad, (), ())
            for table in LOOSE[:6]:
                self.wrong(NotWhole, "lot", hanging_parts(table)[0], call, table, (), ())

    def test_cuts_and_splits(self):
        table = bent(4, [(0, 1)])
        for call in self.CALLS:
            self.wrong(NotCut, "lot", (1,), call, table, [1], ())
            self.wrong(NotCut, "lot", (), call, table, [1, 0], ())
            self.wrong(NotCut, "lot", (0, 1, 3), call, table, (2, 3), [3, 0, 1])
            # the first lot comes first, whatever the second one is
            self.wrong(NotSplit, "lot", (0, 2), call, table, [2, 0], (1,))
            self.wrong(NotSplit, "lot", (1, 3), call, table, (0, 1), [3, 1])
            self.wrong(OtherShape, "word", "crossing", call, table, (0, 1), [3, 2])
            self.wrong(OtherShape, "word", "crossing", call, table, (0, 1), (1, 0))
            self.wrong(NotSplit, "lot", (0, 2), call, RING, (0, 2), (0, 1))
            self.wrong(NotSplit, "lot", (0, 1), call, BENT, (0, 1), (0, 2))
            self.wrong(OtherShape, "word", "crossing", call, EQUAL, (0, 1), (0, 1, 2))
            self.wrong(BadLot, "place", 1, call, EQUAL, (0, 1), (0, 5))
        self.assertEqual(quarter_table(EQUAL, (0, 1), (1, 2)).rows, ((0, 1, 0, 0), (1, 0, 1, 1)))
        self.assertEqual(crossing_kind(ring(FOUR, 4), (0, 1), (0, 2)), "group")
        self.assertEqual(crossing_kind(EQUAL, (0, 1), (0, 2)), "equal")
        self.assertEqual(GROUPS["2"], crossing_group(Table.parity(2, 4), (0, 1), (0, 2)))


if __name__ == "__main__":
    unittest.main()
