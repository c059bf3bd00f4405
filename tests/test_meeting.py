"""Meeting: [62], [63], [66] to [68], [70], and the section toldorfree/meeting.py."""

import random
import unittest

from tests.asking import Asking
from tests.samples import (BENT, FAIR, FIVE, FOUR, KLEIN, NO_LISTS, SORTS, UNFAIR, all_lots, alike_on, bent, four_points,
                           pairs_of_lots, parts, plain_classes, plain_meet, plain_rank, ring, shuffled, square_of)
from toldorfree.classes import class_count, class_shares, classes
from toldorfree.coarse import coarse_blocks, coarse_table
from toldorfree.errors import NoRow, NotFair
from toldorfree.groups import Group
from toldorfree.holding import short_part
from toldorfree.inner import inner_tables, relabelled
from toldorfree.laid import bent_table
from toldorfree.meeting import closing_row, full_classes, meets, open_round
from toldorfree.ranks import Ranks
from toldorfree.tables import Table

SMALL = [table for table in FAIR + SORTS if table.many <= 64]
OFTEN = [table for table in SMALL if table in (BENT, FIVE) or table.columns >= 4]


def plain_open_round(table, one, other):
    """The least open round, by all rounds."""
    first = {row: tuple(row[column] for column in one) for row in table}
    second = {row: tuple(row[column] for column in other) for row in table}
    closing = {(first[row], second[row]) for row in table}
    return next(((s, t, u) for s in table for t in table if first[s] == first[t]
                 for u in table if second[t] == second[u] and (first[u], second[s]) not in closing), None)


def plain_full(table, one, other):
    numbers = plain_classes(table, one, other)
    closing = {(tuple(row[c] for c in one), tuple(row[c] for c in other)) for row in table}
    return all((tuple(u[c] for c in one), tuple(s[c] for c in other)) in closing
               for place, s in enumerate(table) for at, u in enumerate(table) if numbers[place] == numbers[at])


class MeetingTest(Asking):
    def test_five_ways_to_meet(self):
        apart = 0
        for seed, table in enumerate(SMALL):
            for one, other in pairs_of_lots(table.columns, 5, seed):
                meet = len(set(plain_classes(table, one, other))) == table.signs ** plain_meet(table, one, other)
                self.assertIs(meets(table, list(one), other[::-1]), meet)
                if len(table) <= 32 or not meet:
                    wanted = plain_open_round(table, one, other)
                    self.assertEqual(open_round(table, one[::-1], list(other)), wanted)
                    self.assertEqual(open_round(table, other, one), plain_open_round(table, other, one))
                    self.assertEqual(meet, wanted is None)
                    self.assertIs(plain_full(table, one, other), meet)
                self.assertIs(full_classes(table, list(one), other[::-1]), meet)
                apart += not meet
        self.assertGreater(apart, 5)

    def test_all_pairs_of_lots(self):
        for table in (BENT, bent(4, [(0, 1)]), shuffled(bent(4, [(0, 1, 2), (1,)]), 7), SORTS[3], FIVE.with_copy(1)):
            for one in all_lots(table.columns):
                for other in all_lots(table.columns):
                    found = open_round(table, one, other)
                    self.assertIs(meets(table, one, other), found is None)
                    self.assertIs(full_classes(table, one, other), found is None)
                    if found is not None:
                        self.assertEqual(found, plain_open_round(table, one, other))

    def test_the_open_round_may_begin_late(self):
        # the class of the first row is full in some renamed tables, so the least open round begins in another one
        begins = set()
        for seed in range(30):
            table = shuffled(BENT, seed)
            for one, other in (((0, 1), (2, 3)), ((0, 2), (1, 3)), ((3, 0), (1, 2))):
                found = open_round(table, one, other)
                self.assertEqual(found, plain_open_round(table, one, other))
                self.is_tuples(found)
                begins.add(table.number_of(found[0]))
        self.assertLessEqual({0, 1}, begins)

    def test_closing_rows(self):
        chance = random.Random(5)
        for seed, table in enumerate(SMALL):
            for one, other in pairs_of_lots(table.columns, 4, seed + 50):
                for _ in range(4):
                    first, last = chance.choice(table.rows), chance.choice(table.rows)
                    wanted = next((row for row in table if alike_on(row, last, one) and alike_on(row, first, other)), None)
                    self.assertEqual(closing_row(table, list(one), other[::-1], list(first), last), wanted)
        self.assertIsNone(closing_row(Table.parity(2, 2), (0,), (1,), (0, 0), (1, 1)))
        self.assertEqual(closing_row(Table.full(2, 3), (0,), (2,), (0, 1, 0), [1, 1, 1]), (1, 0, 0))
        self.assertEqual(closing_row(BENT, (), (), BENT[7], BENT[9]), BENT[0])

    def test_modular_lots(self):
        for seed, table in enumerate(SORTS):
            ranks = Ranks(table)
            for one, other in pairs_of_lots(table.columns, 14, seed + 300):
                meet = ranks.meet_number(one, other)
                told_one, told_other = set(ranks.told(one)), set(ranks.told(other))
                easy = (meet == 0 or set(one) <= told_other or set(other) <= told_one or ranks.total <= 2
                        or min(ranks.rank(one), ranks.rank(other)) <= 1)
                if easy:
                    self.assertTrue(ranks.is_modular(one, other))
                if ranks.is_modular(one, other):
                    self.assertIs(meets(table, one, other), True)

    def test_part_tables(self):
        for seed, table in enumerate(OFTEN):
            for one, other in pairs_of_lots(table.columns, 6, seed + 400):
                both = sorted(set(one) | set(other))
                if both:
                    new = [tuple(both.index(column) for column in lot) for lot in (one, other)]
                    self.assertIs(meets(table.part_table(both), *new), meets(table, one, other))

    def test_smaller_lots(self):
        many = 0
        for seed, table in enumerate(OFTEN):
            chance = random.Random(seed)
            for one, other in pairs_of_lots(table.columns, 8, seed + 500):
                less, fewer = (tuple(column for column in lot if chance.random() < 0.7) for lot in (one, other))
                if plain_meet(table, less, fewer) == plain_meet(table, one, other):
                    self.assertIs(meets(table, less, fewer), meets(table, one, other))
                    if meets(table, one, other):
                        self.assertEqual(classes(table, less, fewer), classes(table, one, other))
                        many += (less, fewer) != (one, other)
        self.assertGreater(many, 40)

    def test_held_columns(self):
        for seed, table in enumerate(OFTEN + [bent(5, [(0, 1, 2)]), bent(5, [(0, 1)])]):
            chance = random.Random(seed)
            for one, other in pairs_of_lots(table.columns, 8, seed + 600):
                hold = tuple(column for column in range(table.columns) if chance.random() < 0.3)
                if len(hold) < table.columns:
                    self.check_held(table, one, other, hold)

    def check_held(self, table, one, other, hold):
        more = [tuple(sorted(set(lot) | set(hold))) for lot in (one, other)]
        rest = [column for column in range(table.columns) if column not in hold]
        less = [tuple(rest.index(column) for column in lot if column in rest) for lot in (one, other)]
        counts, meet = [], []
        for part in sorted(parts(table, hold)):
            small = short_part(table, hold, part)
            counts.append(class_count(small, *less))
            meet.append(meets(small, *less))
        self.assertEqual(class_count(table, *more), sum(counts))
        self.assertIs(meets(table, *more), all(meet))
        if set(hold) <= set(one) | set(other) and meets(table, one, other):
            self.assertIs(meets(table, *more), True)
        return meets(table, one, other), meets(table, *more)

    def test_held_columns_that_change_the_meeting(self):
        self.assertEqual(self.check_held(BENT + Table.full(4, 1), (0, 1), (2, 3), (4,)), (False, False))
        self.assertEqual(self.check_held(BENT, (0, 1), (2, 3), (0,)), (False, True))
        # columns that are in neither lot
        self.assertEqual(self.check_held(bent(5, [(0, 1, 2)]), (0, 1), (2, 3), (4,)), (True, False))
        self.assertEqual(self.check_held(BENT.with_copy(1), (0, 1), (2, 3), (4,)), (False, True))
        self.assertEqual(self.check_held(four_points(Group.turns()), (0, 5), (1, 4), (2,)), (False, True))

    def test_paired_tables(self):
        for one, other in ((Table.parity(2, 4), BENT), (BENT, Table.parity(2, 4)), (ring(KLEIN, 4), Table.parity(2, 4)),
                           (FIVE, Table.parity(2, 3)), (Table.parity(3, 4), Table.parity(2, 4))):
            table = one * other
            for lots in pairs_of_lots(table.columns, 10, len(table)):
                self.assertEqual(class_count(table, *lots), class_count(one, *lots) * class_count(other, *lots))
                self.assertIs(meets(table, *lots), meets(one, *lots) and meets(other, *lots))

    def test_tables_beside_one_another(self):
        for one, other in ((BENT, Table.full(4, 2)), (Table.parity(2, 4), Table.parity(2, 3)), (FIVE, FIVE),
                           (BENT, Table(4, [(1, 2)]))):
            table, n = one + other, one.columns
            for lots in pairs_of_lots(table.columns, 12, n):
                here = [tuple(column for column in lot if column < n) for lot in lots]
                there = [tuple(column - n for column in lot if column >= n) for lot in lots]
                self.assertEqual(class_count(table, *lots), class_count(one, *here) * class_count(other, *there))

    def test_inner_and_coarse_tables(self):
        for table in (BENT, bent(4, [(0, 1)]), ring(FOUR, 4), four_points(KLEIN), square_of(KLEIN), SORTS[3],
                      Table.parity(2, 3) * square_of(KLEIN)):
            half = table.signs // 2
            smaller = ([relabelled(table, chosen) for size in (2, half) for chosen in list(inner_tables(table, size))[:4]]
                       + [coarse_table(table, blocks) for blocks in coarse_blocks(table, half)[:4]])
            self.assertTrue(smaller)
            for lots in pairs_of_lots(table.columns, 12, half):
                if meets(table, *lots):
                    for small in smaller:
                        self.assertIs(meets(small, *lots), True)

    def test_names(self):
        for seed, table in enumerate(OFTEN):
            for lots in pairs_of_lots(table.columns, 4, seed):
                turned = shuffled(table, seed)
                self.assertEqual(class_count(turned, *lots), class_count(table, *lots))

    def test_four_points(self):
        # two opposite pairs of edges meet exactly if the group is abelian
        for group in (FOUR, KLEIN, Group.sums(5)):
            self.assertIs(meets(four_points(group), (0, 5), (1, 4)), True)
        table = four_points(Group.turns())
        self.assertIs(meets(table, (0, 5), [4, 1]), False)
        self.assertEqual(class_shares(table, (0, 5), (1, 4)), (3, 3))

    def test_example(self):
        table = bent_table(4, [(0, 1, 2)])
        self.assertEqual([meets(table, (0, 1), (2, 3)), class_shares(table, (0, 1), (2, 3)),
                          open_round(table, (0, 1), (2, 3))],
                         [False, (2, 1, 1), ((0, 0, 0, 0), (0, 0, 2, 2), (2, 3, 2, 2))])

    def test_lots_of_rank_one(self):
        self.assertEqual(plain_rank(BENT, (0,)), 1)
        for other in all_lots(4):
            self.assertIs(meets(BENT, (0,), other), True)
            self.assertIsNone(open_round(BENT, other, (3,)))


class WrongTest(Asking):
    def test_lots(self):
        bad = UNFAIR[3]
        for call in (meets, open_round, full_classes, lambda *values: closing_row(*values, None, None)):
            self.wrong_lots(3, lambda lot: call(bad, lot, None))
            self.wrong_lots(3, lambda lot: call(bad, (2, 0), lot))
            self.wrong(NotFair, "lot", (0, 2), call, bad, (), ())
            for table in UNFAIR:
                with self.assertRaises(NotFair):
                    call(table, (0,), [])

    def test_rows(self):
        table = Table.parity(2, 3)
        for row in NO_LISTS + ((0, 0), (0, 0, 1), (0, 0, 2), (False, 0, 0), [0, 1, True], "000"):
            self.wrong(NoRow, "row", row, closing_row, table, (0,), (1,), row, None)
            self.wrong(NoRow, "row", row, closing_row, table, (0,), (1,), [0, 1, 1], row)


if __name__ == "__main__":
    unittest.main()
