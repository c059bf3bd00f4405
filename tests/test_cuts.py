"""Cuts and splits: [91], [92], [95] and the section toldorfree/cuts.py."""

import random
import unittest

from tests.asking import Asking
from tests.samples import (BENT, FIVE, FOUR, GROUPS, NO_INTEGERS, UNFAIR, all_lots, bent, drawn, four_points,
                           glue_plainly, parts, plain_classes, plain_meet, ring, square_of)
from tests.wholes import LOOSE, SMALL, TURNS, WHOLE, plain_crosses, plain_cuts, rest
from toldorfree.circuits import circuits_of
from toldorfree.cuts import class_column, crosses, cuts_of, is_split, splits_of, strong_splits
from toldorfree.errors import BadNumber, NotCut, NotFair, NotSplit, NotWhole
from toldorfree.holding import short_part
from toldorfree.meeting import meets
from toldorfree.partings import column_parting, numbered
from toldorfree.putting import goes_in
from toldorfree.ranks import Ranks, hanging_parts
from toldorfree.tables import Table


class CutsTest(Asking):
    def test_cuts_and_splits(self):
        ways = set()
        for table in SMALL:
            cuts = plain_cuts(table)
            splits = [lot for lot in cuts if len(set(plain_classes(table, lot, rest(table, lot)))) == table.signs]
            strong = [lot for lot in splits if not any(plain_crosses(lot, other, table.columns) for other in splits)]
            self.assertEqual(cuts_of(table), tuple(cuts))
            self.assertEqual(splits_of(table), tuple(splits))
            self.assertEqual(strong_splits(table), tuple(strong))
            for lot in cuts:
                self.assertIs(is_split(table, list(lot[::-1])), lot in splits)
                self.assertIs(is_split(table, rest(table, lot)), lot in splits)
            self.is_tuples((cuts_of(table), splits_of(table), strong_splits(table)))
            ways.add((bool(cuts), len(cuts) > len(splits), bool(splits), bool(strong)))
        self.assertEqual({(True, True, False, False), (True, True, True, True), (True, False, True, False),
                          (False, False, False, False)} - ways, set())

    def test_some(self):
        self.assertEqual(cuts_of(BENT), ((0, 1), (0, 2), (0, 3)))
        self.assertEqual(splits_of(BENT), ())
        self.assertEqual(splits_of(bent(4, [(0, 1)])), ((0, 1),))
        self.assertEqual(splits_of(ring(FOUR, 4)), ((0, 1), (0, 2), (0, 3)))
        self.assertEqual(splits_of(ring(TURNS, 4)), ((0, 1), (0, 3)))
        self.assertEqual(strong_splits(ring(TURNS, 4)), ())
        self.assertEqual(strong_splits(bent(4, [(0, 1)])), ((0, 1),))
        self.assertEqual(cuts_of(four_points(TURNS)), ())
        self.assertEqual(len(splits_of(Table.parity(2, 8))), 119)
        self.assertEqual(strong_splits(Table.parity(2, 8)), ())
        equal = Table(2, [(0, 1, 0, 0, 1), (1, 0, 1, 1, 0)])
        self.assertEqual(len(splits_of(equal)), 10)
        self.assertEqual(strong_splits(Table.parity(2, 3).with_copy(0)), ((0, 3),))

    def test_few_columns(self):
        for table in (Table.full(2, 1), Table(3, [(1,)]), Table.parity(2, 2), FIVE, Table.parity(4, 3)):
            for call in (cuts_of, splits_of, strong_splits):
                self.assertEqual(call(table), ())
            for lot in all_lots(table.columns):
                self.wrong(NotCut, "lot", lot, is_split, table, lot[::-1])

    def test_two_and_three_signs(self):
        for table in WHOLE:
            if table.signs <= 3:
                self.assertEqual(splits_of(table), cuts_of(table))

    def test_cuts_that_do_not_split(self):
        for table in WHOLE:
            for lot in set(cuts_of(table)) - set(splits_of(table)):
                self.assertLess(max(self.classes(table, lot)), table.signs - 1)

    def classes(self, table, lot):
        return plain_classes(table, lot, rest(table, lot))

    def test_four_columns_in_one_circuit(self):
        # a cut of such a table does not split, or one, two or three do
        found = {len(splits_of(table)) for table in WHOLE if circuits_of(table) == ((0, 1, 2, 3),)}
        self.assertEqual(found, {0, 1, 2, 3})

    def test_class_columns(self):
        for table in SMALL:
            for lot in splits_of(table):
                wanted = self.classes(table, lot)
                self.assertEqual(class_column(table, list(lot[::-1])), wanted)
                self.assertEqual(class_column(table, rest(table, lot)), wanted)
                self.assertEqual(numbered(wanted), wanted)
                self.assertIs(goes_in(table, wanted), True)
            for column in range(table.columns):
                wanted = numbered(column_parting(table, column))
                self.assertEqual(class_column(table, [column]), wanted)
                self.assertEqual(class_column(table, rest(table, (column,))), wanted)

    def test_class_columns_of_few_columns(self):
        table = Table(3, [(2, 1), (0, 2), (1, 0)])
        self.assertEqual([class_column(table, [0]), class_column(table, (1,))], [(0, 1, 2), (0, 1, 2)])
        self.wrong(NotCut, "lot", (), class_column, table, ())
        self.wrong(NotCut, "lot", (0, 1), class_column, table, [1, 0])
        one = Table(5, [(3,), (1,), (0,), (2,), (4,)])
        self.assertEqual([class_column(one, ()), class_column(one, (0,))], [(0, 1, 2, 3, 4)] * 2)
        self.assertEqual([class_column(Table(5, [(3,)]), ()), class_column(Table(5, [(3,)]), [0])], [(0,)] * 2)
        self.assertEqual(class_column(FIVE, (1, 2)), numbered(column_parting(FIVE, 0)))

    def test_crosses(self):
        for columns in range(1, 6):
            lots = all_lots(columns)
            for one in lots[::1 if columns < 5 else 3]:
                for other in lots:
                    self.assertIs(crosses(list(one), other[::-1], columns), plain_crosses(one, other, columns))
        self.assertIs(crosses((0, 1), (1, 2), 4), True)
        self.assertIs(crosses((0, 1), (2, 3), 4), False)
        self.assertIs(crosses((0, 1), (1, 2), 3), False)
        self.assertIs(crosses((7, 0), [0, 3, 4], 8), True)

    def test_crossing_does_not_depend_on_the_sides(self):
        for one in all_lots(5)[::2]:
            for other in all_lots(5)[::3]:
                turned = [tuple(column for column in range(5) if column not in lot) for lot in (one, other)]
                self.assertEqual({crosses(one, other, 5), crosses(turned[0], other, 5), crosses(one, turned[1], 5),
                                  crosses(*turned, 5), crosses(other, one, 5)}, {crosses(one, other, 5)})


class SplitsTest(Asking):
    def test_five_ways_to_split(self):
        ways = set()
        for seed, table in enumerate([table for table in WHOLE if table.columns <= 6 and table.many <= 256]):
            ranks = Ranks(table)
            for lot in cuts_of(table):
                other = rest(table, lot)
                split = is_split(table, lot)
                numbers = self.numbers(table, lot)
                self.assertIs(meets(table, lot, other), split)
                self.assertIs(max(numbers) + 1 == table.signs, split)
                self.assertIs(max(numbers) > 0 and max(numbers) < table.signs and goes_in(table, numbers), split)
                self.check_smaller_lots(table, ranks, lot, other, split)
                self.check_short_parts(table, lot, other, split, seed)
                ways.add(split)
        self.assertEqual(ways, {True, False})

    def numbers(self, table, lot):
        return plain_classes(table, lot, rest(table, lot))

    def check_smaller_lots(self, table, ranks, lot, other, split):
        for one in [one for one in all_lots(table.columns) if set(one) <= set(lot)][::2]:
            for two in [two for two in all_lots(table.columns) if set(two) <= set(other)]:
                if ranks.meet_number(one, two) == 1:
                    self.assertIs(meets(table, one, two), split)

    def check_short_parts(self, table, lot, other, split, seed):
        chance = random.Random(seed)
        answers = [True]
        for hold in [hold for hold in all_lots(table.columns) if set(hold) <= set(lot)]:
            left = rest(table, hold)
            sides = [tuple(left.index(column) for column in side if column in left) for side in (lot, other)]
            found = sorted(parts(table, hold))
            for part in found if not split and len(found) < 20 else chance.sample(found, min(3, len(found))):
                answers.append(meets(short_part(table, hold, part), *sides))
        self.assertIs(all(answers), split)

    def test_sides_of_a_split_hang_together(self):
        for table in WHOLE:
            for lot in splits_of(table):
                self.assertEqual(Ranks(table).meet_number(lot, rest(table, lot)), 1)


class WrongTest(Asking):
    def test_lots_come_first(self):
        bad = UNFAIR[-1]
        for call in (is_split, class_column):
            self.wrong_lots(6, lambda lot: call(bad, lot))
            self.wrong(NotFair, "lot", (3, 4), call, bad, ())
        for call in (cuts_of, splits_of, strong_splits):
            self.wrong(NotFair, "lot", (3, 4), call, bad)
            for table in UNFAIR:
                with self.assertRaises(NotFair):
                    call(table)

    def test_not_whole(self):
        for table in LOOSE:
            first = hanging_parts(table)[0]
            for call in (cuts_of, splits_of, strong_splits):
                self.wrong(NotWhole, "lot", first, call, table)
            for lot in ((), (0,), (1,), (0, 1)):
                self.wrong(NotWhole, "lot", first, is_split, table, lot)
                self.wrong(NotWhole, "lot", first, class_column, table, lot)
        table = (Table.parity(2, 3) + Table.parity(2, 3)).moved((3, 0, 4, 1, 2, 5))
        self.wrong(NotWhole, "lot", (0, 2, 5), cuts_of, table)
        self.wrong(NotWhole, "lot", (0,), cuts_of, Table(2, [(0, 1)]))

    def test_no_cuts(self):
        table = glue_plainly(square_of(FOUR), 2, BENT, 1, drawn(4, 5))
        self.assertEqual(splits_of(table), ((0, 1),))
        for lot in all_lots(5):
            side = 2 <= len(lot) <= 3 and plain_meet(table, lot, rest(table, lot)) == 1
            if not side:
                self.wrong(NotCut, "lot", lot, is_split, table, lot[::-1])
                if len(lot) not in (1, 4):
                    self.wrong(NotCut, "lot", lot, class_column, table, list(lot))
            elif lot not in ((0, 1), (2, 3, 4)):
                self.assertIs(is_split(table, lot), False)
                self.wrong(NotSplit, "lot", lot, class_column, table, list(lot[::-1]))
        for lot in ((0, 1), (3, 2), [0, 3]):
            self.wrong(NotSplit, "lot", tuple(sorted(lot)), class_column, BENT, lot)
        points = four_points(GROUPS["2"])
        for lot in ((0, 1), (0, 1, 3), (5, 4, 2, 1)):
            self.wrong(NotCut, "lot", tuple(sorted(lot)), is_split, points, lot)

    def test_wrong_columns_and_lots(self):
        for columns in NO_INTEGERS + (-1, 0, 9):
            self.wrong(BadNumber, "name", "columns", crosses, None, None, columns)
        self.wrong_lots(4, lambda lot: crosses(lot, None, 4))
        self.wrong_lots(4, lambda lot: crosses((3, 0), lot, 4))


if __name__ == "__main__":
    unittest.main()
