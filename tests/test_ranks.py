"""Ranks: [16], [17], [26], [30], [31] and the section toldorfree/ranks.py."""

import unittest

from tests.asking import Asking
from tests.samples import FAIR, UNFAIR, all_lots, plain_circuits, plain_latin, plain_rank, plain_tells, shuffled
from toldorfree.errors import BadLot, NotFair
from toldorfree.fairness import is_fair, is_full, told_by
from toldorfree.ranks import Ranks, closed_lots, hanging_parts, hangs_together
from toldorfree.tables import Table


def first_bad(table):
    return [lot for lot in plain_circuits(table) if not plain_latin(table.part_table(lot))][0]


class RanksTest(Asking):
    def test_ranks(self):
        for table in FAIR:
            ranks = Ranks(table)
            self.assertEqual((ranks.signs, ranks.columns), (table.signs, table.columns))
            self.assertEqual(table.signs ** ranks.total, table.many)
            for lot in all_lots(table.columns):
                self.assertEqual(ranks.rank(lot[::-1]), plain_rank(table, lot))

    def test_told_and_closed(self):
        for table in FAIR:
            ranks = Ranks(table)
            for lot in all_lots(table.columns)[::2]:
                self.assertEqual(ranks.told(list(lot)), told_by(table, lot))
                self.assertIs(ranks.is_closed(lot[::-1]), told_by(table, lot) == lot)
        self.assertEqual(Ranks(Table.parity(2, 3)).told([2, 0]), (0, 1, 2))
        self.assertTrue(plain_tells(Table.parity(2, 3), (0, 2), 1))

    def test_meet_number_and_modular(self):
        for table in FAIR[::2]:
            if table.columns <= 4:
                ranks = Ranks(table)
                for one in all_lots(table.columns):
                    for other in all_lots(table.columns):
                        both = set(one) | set(other)
                        meet = plain_rank(table, one) + plain_rank(table, other) - plain_rank(table, both)
                        shared = set(told_by(table, one)) & set(told_by(table, other))
                        self.assertEqual(ranks.meet_number(one, list(other)), meet)
                        self.assertIs(ranks.is_modular(one[::-1], other), meet == plain_rank(table, shared))

    def test_a_pair_that_is_not_modular(self):
        ranks = Ranks(Table.parity(2, 4))
        self.assertEqual(ranks.meet_number((0, 1), (2, 3)), 1)
        self.assertIs(ranks.is_modular((0, 1), (2, 3)), False)
        self.assertIs(ranks.is_modular((0, 1), (1, 2)), True)

    def test_steps(self):
        for table in FAIR:
            ranks = Ranks(table)
            self.assertEqual(ranks.rank(()), 0)
            lots = all_lots(table.columns)
            for lot in lots[::3]:
                for column in range(table.columns):
                    step = ranks.rank(sorted(set(lot) | {column})) - ranks.rank(lot)
                    self.assertIn(step, (0, 1))
                    self.assertEqual(step == 0, column in ranks.told(lot))
                self.assertEqual(is_full(table, lot), ranks.rank(lot) == len(lot))
                for other in lots[::7]:
                    self.assertLessEqual(ranks.rank(sorted(set(lot) | set(other)))
                                         + ranks.rank(sorted(set(lot) & set(other))), ranks.rank(lot) + ranks.rank(other))

    def test_same_shape(self):
        self.assertTrue(Ranks(Table.parity(2, 3)) == Ranks(Table.parity(9, 3)))
        self.assertTrue(Ranks(Table.full(2, 1)) == Ranks(Table.full(36, 1)))
        self.assertFalse(Ranks(Table.parity(2, 3)) == Ranks(Table.parity(2, 4)))
        self.assertFalse(Ranks(Table.parity(2, 3)) == Ranks(Table.full(2, 2) + Table(2, [(0,)])))
        self.assertTrue(Ranks(Table.parity(2, 3)) != Ranks(Table.full(2, 3)))
        self.assertFalse(Ranks(Table(2, [(0,)])) == Ranks(Table(2, [(0, 0)])))
        for value in (None, 3, Table.parity(2, 3)):
            self.assertIs(Ranks(Table.parity(2, 3)) == value, False)

    def test_same_shape_of_made_tables(self):
        for number, table in enumerate(FAIR):
            self.assertTrue(Ranks(table) == Ranks(shuffled(table, number)))
        one, other = Table.parity(2, 4), Table.parity(3, 4)
        self.assertTrue(Ranks(one * other) == Ranks(one))
        for lot in all_lots(4)[:-1]:
            self.assertTrue(Ranks(one - lot) == Ranks(other - lot))
            self.assertEqual(list(closed_lots(one)), list(closed_lots(other)))
        self.assertEqual(hanging_parts(one), hanging_parts(other))

    def test_wrong_lots(self):
        ranks = Ranks(Table.parity(2, 3))
        for call in (ranks.rank, ranks.told, ranks.is_closed):
            self.wrong_lots(3, call)
        for call in (ranks.meet_number, ranks.is_modular):
            self.wrong_lots(3, lambda lot: call(lot, ()))
            self.wrong_lots(3, lambda lot: call((), lot))
            self.wrong(BadLot, "place", 1, call, (0, 9), 7)

    def test_not_fair(self):
        for table in UNFAIR:
            self.assertFalse(is_fair(table))
            lot = first_bad(table)
            self.wrong(NotFair, "lot", lot, Ranks, table)
            self.wrong(NotFair, "lot", lot, lambda: list(closed_lots(table)))
            self.wrong(NotFair, "lot", lot, hanging_parts, table)
            self.wrong(NotFair, "lot", lot, hangs_together, table)

    def test_closed_lots(self):
        for table in FAIR:
            wanted = [lot for lot in all_lots(table.columns) if told_by(table, lot) == lot]
            self.assertEqual(list(closed_lots(table)), wanted)
        self.assertEqual(list(closed_lots(Table(2, [(0, 1)]))), [(0, 1)])
        self.assertEqual(next(closed_lots(Table.full(2, 8))), ())

    def test_going_on(self):
        for table in FAIR[::3]:
            ranks = Ranks(table)
            for lot in all_lots(table.columns)[::5]:
                for part in table.part_rows(lot):
                    self.assertEqual(len(table.rows_with(lot, part)), table.signs ** (ranks.total - ranks.rank(lot)))
                for other in all_lots(table.columns)[::11]:
                    both = tuple(sorted(set(lot) | set(other)))
                    many = {}
                    for part in table.part_rows(both):
                        begin = tuple(sign for column, sign in zip(both, part) if column in lot)
                        many[begin] = many.get(begin, 0) + 1
                    self.assertEqual(set(many.values()), {table.signs ** (ranks.rank(both) - ranks.rank(lot))})

    def test_example(self):
        table = Table.parity(2, 3)
        self.assertEqual([Ranks(table).total, Ranks(table).meet_number((0, 1), (2,)), list(closed_lots(table))],
                         [2, 1, [(), (0,), (1,), (2,), (0, 1, 2)]])


class HangingTest(Asking):
    def plain_partings(self, columns):
        """All partings of so many columns, as lists of lists."""
        if columns == 0:
            return [[]]
        found = []
        for parting in self.plain_partings(columns - 1):
            found.append(parting + [[columns - 1]])
            for number in range(len(parting)):
                found.append([part + [columns - 1] if place == number else part for place, part in enumerate(parting)])
        return found

    def test_finest_parting(self):
        for table in [table for table in FAIR if table.columns <= 6]:
            ranks = Ranks(table)
            fitting = [parting for parting in self.plain_partings(table.columns)
                       if sum(ranks.rank(part) for part in parting) == ranks.total]
            finest = max(fitting, key=len)
            self.assertEqual(hanging_parts(table), tuple(sorted(tuple(part) for part in finest)))
            self.assertIs(hangs_together(table), len(finest) == 1)

    def test_parts(self):
        self.assertEqual(hanging_parts(Table.full(2, 3)), ((0,), (1,), (2,)))
        self.assertEqual(hanging_parts(Table.parity(2, 8)), (tuple(range(8)),))
        self.assertEqual(hanging_parts(Table(2, [(0, 1)])), ((0,), (1,)))
        table = (Table.parity(2, 2) + Table.parity(2, 3)).moved((2, 0, 3, 1, 4))
        self.assertEqual(hanging_parts(table), ((0, 2, 4), (1, 3)))
        self.assertEqual([hangs_together(Table.full(2, 1)), hangs_together(Table(2, [(1,)]))], [True, True])
        self.assertIs(hangs_together(Table.full(2, 2)), False)

    def test_together_by_ranks(self):
        for table in FAIR:
            ranks = Ranks(table)
            lots = all_lots(table.columns)
            apart = [lot for lot in lots[1:-1] if ranks.rank(lot) + ranks.rank(
                [column for column in range(table.columns) if column not in lot]) == ranks.total]
            self.assertEqual(hangs_together(table), apart == [])

    def test_parts_beside_one_another(self):
        for table in FAIR:
            found = hanging_parts(table)
            order = tuple(column for lot in found for column in lot)
            beside = table.part_table(found[0])
            for lot in found[1:]:
                beside = beside + table.part_table(lot)
            self.assertEqual(table.moved(order), beside)
            for lot in found:
                self.assertTrue(hangs_together(table.part_table(lot)))


if __name__ == "__main__":
    unittest.main()
