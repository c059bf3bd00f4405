"""Chosen signs and inner tables: [50] to [52], [57] and the section toldorfree/inner.py."""

import unittest
from itertools import combinations, product
from math import comb

from tests.asking import Asking
from tests.samples import (BENT, FIVE, FOUR, KLEIN, NO_INTEGERS, NO_LISTS, SORTS, UNFAIR, all_lots, line, parts,
                           plain_circuits, plain_rank, shuffled, square_of)
from toldorfree.circuits import equal_columns
from toldorfree.errors import BadBlocks, BadNumber, NoRow, NotFair, OtherShape, TooMany
from toldorfree.fairness import is_fair
from toldorfree.groups import Group
from toldorfree.holding import short_part
from toldorfree.inner import chosen_rows, inner_tables, inner_through, is_inner, relabelled
from toldorfree.naming import Renaming
from toldorfree.ranks import Ranks
from toldorfree.tables import Table

# tables with so few chosen signs that all can be tried
FEW = (
    Table.full(2, 1), Table.full(3, 1), Table.full(4, 1), Table.full(4, 2), Table.full(3, 3), Table.parity(2, 4),
    Table.parity(4, 2), Table.parity(4, 3), square_of(KLEIN), shuffled(square_of(KLEIN), 3), Table.parity(3, 3),
    Table.parity(5, 3), FIVE, Table.parity(6, 2), Table.parity(6, 3), square_of(Group.turns()),
    shuffled(square_of(FOUR), 1).with_copy(1), Table(4, [(2,)]) + shuffled(Table.parity(4, 2), 2),
    Table.parity(4, 2) + Table(4, [(1, 3)]) , Table(5, [(1, 0, 4)]), Table(2, [(1,)]), line(5, 4), line(3, 4),
    Table.parity(4, 2).moved((1, 0)) + Table.full(4, 1), Table(6, [(k, 4, k, 5 - k) for k in range(6)]),
)
MEMBERS = FEW + (BENT, SORTS[3], SORTS[8])


def fixed_at(table, column):
    return len(parts(table, (column,))) == 1


def all_chosen(table, size):
    """All chosen signs of this size, ascending."""
    entries = [[tuple(part) for part in parts(table, (column,))] if fixed_at(table, column)
               else list(combinations(range(table.signs), size)) for column in range(table.columns)]
    return product(*entries)


def plain_chosen(table, chosen):
    return tuple(number for number, row in enumerate(table)
                 if all(sign in entry for sign, entry in zip(row, chosen)))


def plain_relabelled(table, chosen, size):
    return Table(size, [tuple(sorted(entry).index(sign) for sign, entry in zip(table[number], chosen))
                        for number in plain_chosen(table, chosen)])


def size_in(table, chosen):
    """The size of chosen signs, the number of signs if all columns are fixed."""
    return next((len(entry) for column, entry in enumerate(chosen) if not fixed_at(table, column)), table.signs)


class InnerTest(Asking):
    def test_all_chosen_signs(self):
        for table in FEW:
            rank = plain_rank(table, range(table.columns))
            for size in range(2, table.signs + 1):
                if comb(table.signs, size) ** table.columns > 9000:
                    continue
                wanted = []
                for chosen in all_chosen(table, size):
                    numbers = plain_chosen(table, chosen)
                    self.assertLessEqual(len(numbers), size ** rank)
                    if len(numbers) == size ** rank:
                        wanted.append(chosen)
                self.assertEqual(list(inner_tables(table, size)), wanted)
                for row in table.rows[::5]:
                    self.assertEqual(inner_through(table, size, list(row)),
                                     sum(all(s in e for s, e in zip(row, chosen)) for chosen in wanted))

    def test_chosen_rows_and_relabelled(self):
        for table in FEW:
            rank = plain_rank(table, range(table.columns))
            for size in range(2, min(table.signs, 4) + 1):
                for number, chosen in enumerate(all_chosen(table, size)):
                    if number % 13 == 0:
                        turned = [list(entry[::-1]) for entry in chosen]
                        numbers = plain_chosen(table, chosen)
                        self.assertEqual(chosen_rows(table, turned), numbers)
                        self.assertIs(is_inner(table, turned), len(numbers) == size ** rank)
                        self.check_relabelled(table, turned, size_in(table, chosen), numbers)

    def check_relabelled(self, table, chosen, size, numbers):
        """The chosen rows are an inner table exactly if they are fair and of the same shape when relabelled."""
        found = plain_relabelled(table, chosen, size) if numbers else None
        alike = found is not None and is_fair(found) and Ranks(found) == Ranks(table)
        self.assertIs(is_inner(table, chosen), alike)
        if alike:
            self.assertEqual(relabelled(table, chosen), found)
            self.assertEqual(relabelled(table, chosen).signs, size)
        else:
            self.wrong(OtherShape, "word", "inner", relabelled, table, chosen)

    def test_inner_tables_of_larger_tables(self):
        for table in MEMBERS:
            for size in (2, table.signs):
                found = list(inner_tables(table, size))
                self.assertEqual(found, sorted(set(found)))
                for chosen in found[:20]:
                    self.assertIs(is_inner(table, chosen), True)
                    small = relabelled(table, chosen)
                    self.assertTrue(is_fair(small) and Ranks(small) == Ranks(table))
                    for column in range(table.columns):
                        if fixed_at(table, column):
                            self.assertEqual(parts(small, (column,)), {(0,)})
                self.is_tuples(tuple(found))

    def test_whole_tables_are_inner(self):
        for table in FEW:
            whole = [sorted(sign for (sign,) in parts(table, (column,))) for column in range(table.columns)]
            self.assertEqual(list(inner_tables(table, table.signs)), [tuple(map(tuple, whole))])
            self.assertEqual(chosen_rows(table, whole), tuple(range(len(table))))
            if len(table) > 1 and not any(fixed_at(table, column) for column in range(table.columns)):
                self.assertEqual(relabelled(table, whole), table)

    def test_numbers_of_inner_tables(self):
        self.assertEqual(len(list(inner_tables(Table.parity(4, 3), 2))), 4)
        self.assertEqual(len(list(inner_tables(square_of(KLEIN), 2))), 12)
        self.assertEqual(list(inner_tables(Table.parity(3, 3), 2)), [])
        self.assertEqual(list(inner_tables(FIVE, 3)), [])
        self.assertEqual(list(inner_tables(Table.full(3, 1), 2)), [((0, 1),), ((0, 2),), ((1, 2),)])

    def test_one_row(self):
        table = Table(36, [(35, 0, 1)])
        for size in (2, 18, 36):
            self.assertEqual(list(inner_tables(table, size)), [((35,), (0,), (1,))])
            self.assertEqual(inner_through(table, size, [35, 0, 1]), 1)
        self.assertIs(is_inner(table, [[35], (0,), [1]]), True)
        self.assertEqual(relabelled(table, [[35], (0,), [1]]), Table(36, [(0, 0, 0)]))
        self.assertEqual(chosen_rows(table, ((35,), [0], (1,))), (0,))

    def test_inner_tables_of_inner_tables(self):
        for table in (Table.parity(8, 2), Table.full(5, 2), Table.parity(4, 2) * Table.parity(2, 2),
                      Table(6, [(4,)]) + Table.parity(6, 2)):
            for chosen in list(inner_tables(table, 4))[::9]:
                for within in list(inner_tables(relabelled(table, chosen), 2))[::4]:
                    again = [[signs[place] for place in places] for signs, places in zip(chosen, within)]
                    self.assertIs(is_inner(table, again), True)

    def test_inner_tables_are_small(self):
        for table in MEMBERS:
            for size in range(2, table.signs):
                if comb(table.signs, size) ** Ranks(table).total <= 5000 and list(inner_tables(table, size)):
                    if any(len(circuit) >= 3 for circuit in plain_circuits(table)):
                        self.assertLessEqual(2 * size, table.signs)
                    for lot in all_lots(table.columns)[:-1]:
                        small = short_part(table, lot, table.part_rows(lot)[0])
                        if Ranks(small).total == 2:
                            self.assertLessEqual((len(equal_columns(small)) - 1) * size, table.signs)

    def test_names(self):
        for number, table in enumerate(FEW):
            turned = shuffled(table, number)
            for size in range(2, table.signs + 1):
                if comb(table.signs, size) ** Ranks(table).total <= 500:
                    self.assertEqual(len(list(inner_tables(table, size))), len(list(inner_tables(turned, size))))
        names = Renaming([(1, 2, 3, 0), (3, 1, 0, 2), (0, 2, 1, 3)])
        turned = Table(4, [names(row) for row in Table.parity(4, 3)])
        wanted = sorted(tuple(tuple(sorted(names[column][sign] for sign in entry)) for column, entry in enumerate(chosen))
                        for chosen in inner_tables(Table.parity(4, 3), 2))
        self.assertEqual(list(inner_tables(turned, 2)), wanted)

    def test_example(self):
        table = Table.parity(4, 2)
        self.assertEqual([chosen_rows(table, [(1, 0), [3, 0]]), relabelled(table, [(1, 0), [3, 0]]).rows],
                         [(0, 1), ((0, 0), (1, 1))])
        self.assertEqual([len(list(inner_tables(table, 2))), inner_through(table, 2, (1, 3))], [6, 3])


class WrongTest(Asking):
    def refuses(self, column, table, chosen):
        for call in (chosen_rows, is_inner, relabelled):
            self.wrong(BadBlocks, "column", column, call, table, chosen)

    def test_no_chosen_signs(self):
        table = Table.parity(4, 2)
        for chosen in NO_LISTS + ((), [], [(0, 1)], [(0, 1)] * 3):
            self.refuses(-1, table, chosen)
        for entry in NO_LISTS + ([], (0,), (0, 0), [0, 1, 0], (0, 4), (-1, 0)) + tuple((0, x) for x in NO_INTEGERS):
            self.refuses(0, table, [entry, None])
            self.refuses(1, table, ((0, 1), entry))
        for entry in ((0, 1, 2), [0, 1, 2, 3]):
            self.refuses(1, table, ((0, 1), entry))
        self.refuses(1, table, ((0, 1, 2), (0, 1)))

    def test_fixed_columns(self):
        # column 1 is fixed, and the table is not fair
        table = Table(4, [(0, 3, 0), (1, 3, 1)])
        for entry in ((2,), (3, 2), (), (3, 3), 3, [True]):
            self.refuses(1, table, ((0, 1), entry, (0, 1)))
        self.refuses(0, table, ((0,), (3,), (0, 1)))
        self.refuses(2, table, ((0, 1), (3,), (3,)))
        self.refuses(2, table, ((0, 1), (3,), (0, 1, 2)))
        for call in (chosen_rows, is_inner, relabelled):
            self.wrong(NotFair, "lot", (0,), call, table, ((0, 1), [3], [1, 0]))
        one = Table(4, [(1, 2)])
        self.refuses(0, one, [(0,), (0,)])
        self.refuses(0, one, [(True,), (2,)])
        self.refuses(1, one, [(1,), (1,)])
        self.refuses(1, one, [(1,), (2, 3)])

    def test_not_fair(self):
        for table in UNFAIR:
            whole = [range(table.signs)] * table.columns
            chosen = [list(signs) if not fixed_at(table, column) else [table[0][column]]
                      for column, signs in enumerate(whole)]
            for call in (chosen_rows, is_inner, relabelled):
                with self.assertRaises(NotFair):
                    call(table, chosen)
        self.wrong(NotFair, "lot", (0, 2), is_inner, UNFAIR[3], [(0, 1)] * 3)

    def test_sizes(self):
        for size in NO_INTEGERS + (-1, 0, 1, 5, 10 ** 30):
            self.wrong(BadNumber, "name", "size", inner_through, UNFAIR[9], size, None)
            self.wrong(BadNumber, "name", "size", lambda value: list(inner_tables(UNFAIR[9], value)), size)
        self.wrong(NotFair, "lot", (1,), inner_through, UNFAIR[9], 2, None)
        self.wrong(NotFair, "lot", (1,), lambda: list(inner_tables(UNFAIR[9], 4)))
        with self.assertRaises(BadNumber):
            next(inner_tables(FIVE, 1))

    def test_no_rows(self):
        table = Table.full(36, 2)
        for row in NO_LISTS + ((0,), (0, 36), (0, 1, 2), (True, 0), (1.0, 0), [-1, 0]):
            self.wrong(NoRow, "row", row, inner_through, table, 5, row)
        self.wrong(NoRow, "row", (0, 0, 1), inner_through, Table.parity(2, 3), 2, (0, 0, 1))

    def test_too_many(self):
        # 70 * 70 ways are not too many, and 5005 are
        self.assertEqual(len(list(inner_tables(Table.full(8, 2), 4))), 4900)
        for table, size in ((Table.full(9, 2), 4), (Table.full(15, 1), 6), (Table.full(36, 1), 18), (Table.full(6, 3), 3)):
            self.wrong(TooMany, "limit", 5000, lambda one, two: list(inner_tables(one, two)), table, size)
            self.wrong(TooMany, "limit", 5000, inner_through, table, size, table[0])
        self.assertEqual(list(inner_tables(Table.full(20, 1), 4)), [(signs,) for signs in combinations(range(20), 4)])
        self.assertEqual(list(inner_tables(Table.full(36, 2), 36)), [(tuple(range(36)),) * 2])
        self.assertEqual(list(inner_tables(Table.parity(36, 3), 35)), [])


if __name__ == "__main__":
    unittest.main()
