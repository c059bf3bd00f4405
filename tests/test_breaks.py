"""Breaks: [4], [5], [11] to [13], [27] and the section toldorfree/breaks.py."""

import unittest
from itertools import combinations, product

from tests.asking import Asking
from tests.samples import (FAIR, NO_INTEGERS, NO_LISTS, UNFAIR, all_lots, every_table, nearly_full, nearly_parity,
                           parts, plain_circuits, plain_free, plain_latin, plain_power, plain_tells, smaller)
from toldorfree.breaks import (Break, fair_up_to, find_break, is_break, least_tellers, needed_for, seen_by_all,
                               table_circuits)
from toldorfree.errors import BadNumber
from toldorfree.fairness import is_fair, leaves_free, tells
from toldorfree.ranks import hangs_together
from toldorfree.tables import Table

SMALL = every_table(2, 1) + every_table(2, 2) + every_table(2, 3) + every_table(3, 1) + every_table(3, 2)
PAIR = Table(3, [(0, 0), (1, 1)])


def unlike_at(lot, one, other):
    return [column for column in lot if one[column] != other[column]]


def plain_break(table):
    """The break that find_break has to find, told by going through everything."""
    for lot in plain_circuits(table):
        if not plain_latin(table.part_table(lot)):
            missing = [part for part in product(range(table.signs), repeat=len(lot)) if part not in parts(table, lot)]
            pairs = [pair for pair in combinations(table.rows, 2) if len(unlike_at(lot, *pair)) == 1]
            return (lot, min(missing)) + min(pairs)
    return None


class BreaksTest(Asking):
    def test_circuits(self):
        for table in SMALL + [table for table in FAIR + UNFAIR if table.columns <= 6]:
            self.assertEqual(table_circuits(table), tuple(plain_circuits(table)))
        self.assertEqual(table_circuits(Table.full(2, 8)), ())
        self.assertEqual(table_circuits(Table(2, [(0,) * 8])), tuple((column,) for column in range(8)))
        self.assertEqual(table_circuits(PAIR), ((0,), (1,)))

    def test_break_stores_what_it_gets(self):
        values = [[1], {}, None, "x"]
        found = Break(*values)
        self.assertIs(found.lot, values[0])
        self.assertIs(found.missing, values[1])
        self.assertIs(found.one, values[2])
        self.assertIs(found.other, values[3])

    def test_find_break(self):
        for table in SMALL + list(UNFAIR):
            found = find_break(table)
            wanted = plain_break(table)
            if wanted is None:
                self.assertIsNone(found)
                continue
            self.assertIsInstance(found, Break)
            self.assertEqual((found.lot, found.missing, found.one, found.other), wanted)
            self.is_tuples((found.lot, found.missing, found.one, found.other))
            self.assertTrue(is_break(table, found))
            self.assertFalse(is_fair(table))

    def test_fair_tables_have_no_break(self):
        for table in FAIR:
            self.assertIsNone(find_break(table))

    def test_break_of_a_later_circuit(self):
        table = Table.parity(2, 3) + Table(2, [(0, 0), (0, 1), (1, 1)])
        found = find_break(table)
        self.assertEqual((found.lot, found.missing), ((3, 4), (1, 0)))
        self.assertEqual((found.one, found.other), ((0, 0, 0, 0, 0), (0, 0, 0, 0, 1)))

    def test_pair_behind_the_first_row(self):
        table = Table(4, [(0, 0, 0), (1, 1, 1), (2, 2, 2), (2, 3, 3), (3, 2, 2), (3, 0, 1)])
        found = find_break(table)
        self.assertEqual((found.lot, found.missing), plain_break(table)[:2])
        table = Table(2, [(0, 0, 1), (0, 1, 0), (1, 0, 0), (1, 1, 0), (1, 1, 1)])
        found = find_break(table)
        self.assertEqual((found.lot, found.missing, found.one, found.other), plain_break(table))
        self.assertEqual((found.one, found.other), ((0, 1, 0), (1, 1, 0)))

    def test_what_a_break_shows(self):
        for table in SMALL[::3] + list(UNFAIR):
            found = find_break(table)
            if found is not None:
                column = unlike_at(found.lot, found.one, found.other)[0]
                others = tuple(place for place in found.lot if place != column)
                self.assertFalse(tells(table, others, column))
                self.assertFalse(leaves_free(table, others, column))

    def test_is_break(self):
        table = Table(2, Table.parity(2, 3).rows + ((1, 1, 1),))
        found = find_break(table)
        self.assertEqual((found.lot, found.missing), ((0, 1, 2), (0, 0, 1)))
        good = ((2, 0, 1), [0, 0, 1], [1, 1, 1], (0, 1, 1))
        self.assertIs(is_break(table, Break(*good)), True)
        self.assertIs(is_break(table, Break([1, 2, 0], (1, 0, 0), (0, 1, 1), (1, 1, 1))), True)
        self.assertIs(is_break(table, Break(*good[:2], good[3], good[2])), True)
        self.assertIs(is_break(table, Break(good[0], good[1], (0, 0, 0), (0, 0, 0))), False)
        self.assertIs(is_break(table, Break(good[0], good[1], (0, 0, 0), (0, 1, 1))), False)
        self.assertIs(is_break(table, Break(good[0], good[1], (0, 0, 0), (1, 0, 0))), False)

    def test_is_break_with_wrong_parts(self):
        table = Table(2, Table.parity(2, 3).rows + ((1, 1, 1),))
        good = ((0, 1, 2), (0, 0, 1), (0, 1, 1), (1, 1, 1))
        lots = NO_LISTS + ((), (0,), (0, 1), (0, 1, 1), (0, 1, 3), (True, 0, 2), (0, 1, 2, 3), ([0], 1, 2))
        missings = NO_LISTS + ((), (0, 0), (0, 1, 1), (0, 0, 2), (0, False, 1), (0, 0, 1, 0), ([0], 0, 1), (0, 0, "1"))
        rows = NO_LISTS + ((), (0, 1), (0, 1, 0), (0, 1, True), (0, 1, 1, 1), ([0], 1, 1))
        for number, values in ((0, lots), (1, missings), (2, rows), (3, rows)):
            for value in values:
                changed = list(good)
                changed[number] = value
                self.assertIs(is_break(table, Break(*changed)), False, changed)
        self.assertIs(is_break(table, Break(*good)), True)
        for value in NO_LISTS + (good, list(good)):
            self.assertIs(is_break(table, value), False)

    def test_is_break_wants_a_circuit(self):
        # the lot (0, 1) is lacking, but column 1 is a circuit alone
        table = Table(3, [(0, 0), (0, 1), (1, 0), (2, 2)])
        self.assertEqual(table_circuits(table), ((0, 1),))
        table = Table(3, [(0, 0), (0, 1), (1, 0), (2, 1)])
        self.assertEqual(table_circuits(table), ((1,),))
        self.assertFalse(is_break(table, Break((0, 1), (0, 2), (0, 0), (0, 1))))
        self.assertTrue(is_break(table, Break((1,), (2,), (0, 0), (0, 1))))

    def test_is_break_counts_columns_of_the_circuit_alone(self):
        table = Table(3, [(0, 0), (1, 1)])
        self.assertTrue(is_break(table, Break((1,), [2], (0, 0), (1, 1))))

    def test_no_break_in_a_fair_table(self):
        for table in FAIR[:24]:
            for lot in plain_circuits(table)[:3]:
                missing = [part for part in product(range(table.signs), repeat=len(lot))
                           if part not in parts(table, lot)][0]
                for one, other in list(combinations(table.rows, 2))[:40]:
                    self.assertFalse(is_break(table, Break(lot, missing, one, other)))

    def test_example(self):
        found = find_break(PAIR)
        self.assertEqual([found.lot, found.missing, found.one, found.other], [(0,), (2,), (0, 0), (1, 1)])


class FewLotsTest(Asking):
    def test_fair_up_to(self):
        for table in SMALL + list(UNFAIR + FAIR[:20]):
            for most in range(table.columns + 2):
                wanted = plain_power(len(table.rows), table.signs) and all(
                    plain_power(len(parts(table, lot)), table.signs)
                    for lot in all_lots(table.columns) if len(lot) <= most)
                self.assertIs(fair_up_to(table, most), wanted)
        self.assertIs(fair_up_to(PAIR, 10 ** 30), False)
        self.assertIs(fair_up_to(Table.full(2, 1), 10 ** 30), True)

    def test_small_lots_are_enough(self):
        for table in SMALL + list(UNFAIR + FAIR):
            ranks = [rank for rank in range(9) if table.signs ** rank == table.many]
            self.assertEqual(is_fair(table), bool(ranks) and fair_up_to(table, ranks[0]))

    def test_smaller_lots_are_not(self):
        for signs, rank in ((2, 2), (2, 3), (2, 5), (3, 2), (3, 3), (4, 2), (7, 2), (36, 2)):
            table = nearly_parity(signs, rank)
            self.assertEqual(table.many, signs ** rank)
            self.assertTrue(fair_up_to(table, rank - 1))
            self.assertFalse(fair_up_to(table, rank))
            self.assertFalse(is_fair(table))
        for signs in (3, 4, 5, 36):
            self.assertTrue(fair_up_to(nearly_full(signs), 0))
            self.assertFalse(fair_up_to(nearly_full(signs), 1))
            self.assertFalse(is_fair(nearly_full(signs)))

    def test_fair_up_to_counts_the_rows(self):
        self.assertFalse(fair_up_to(Table(2, [(0, 0), (0, 1), (1, 0)]), 1))
        self.assertFalse(fair_up_to(Table(2, [(0, 0), (0, 1), (1, 0)]), 0))
        self.assertTrue(fair_up_to(Table(2, [(0, 0)]), 0))

    def test_fair_up_to_refuses(self):
        for most in NO_INTEGERS + (-1,):
            self.wrong(BadNumber, "name", "most", fair_up_to, PAIR, most)

    def plain_tellers(self, table, column):
        lots = [lot for lot in all_lots(table.columns) if column not in lot and plain_tells(table, lot, column)]
        return tuple(lot for lot in lots if not any(part in lots for part in smaller(lot)))

    def test_tellers(self):
        for table in SMALL[::2] + [table for table in FAIR + UNFAIR if table.columns <= 4 and table.many < 28]:
            for column in range(table.columns):
                tellers = self.plain_tellers(table, column)
                self.assertEqual(least_tellers(table, column), tellers)
                self.assertEqual(needed_for(table, column), tuple(sorted({other for lot in tellers for other in lot})))
                seen = all(plain_tells(table, lot, column) or plain_free(table, lot, column)
                           for lot in all_lots(table.columns) if column not in lot)
                self.assertIs(seen_by_all(table, column), seen)

    def test_tellers_of_fixed_and_free_columns(self):
        self.assertEqual(least_tellers(Table(2, [(0, 1)]), 0), ((),))
        self.assertEqual(least_tellers(Table.full(2, 2), 0), ())
        self.assertEqual(needed_for(Table.full(2, 2), 0), ())
        self.assertTrue(seen_by_all(Table(2, [(0,)]), 0))
        self.assertFalse(seen_by_all(Table(3, [(0,), (1,)]), 0))
        self.assertEqual(least_tellers(Table.parity(2, 8), 3), ((0, 1, 2, 4, 5, 6, 7),))

    def test_tellers_refuse(self):
        for call in (seen_by_all, least_tellers, needed_for):
            for column in NO_INTEGERS + (-1, 2):
                self.wrong(BadNumber, "name", "column", call, PAIR, column)

    def test_one_column_is_enough(self):
        for table in SMALL + list(UNFAIR + FAIR):
            for column in range(table.columns if table.columns >= 2 else 0):
                others = tuple(other for other in range(table.columns) if other != column)
                needed = needed_for(table, column)
                if seen_by_all(table, column):
                    if needed == others:
                        self.assertTrue(is_fair(table))
                    for lot in table_circuits(table):
                        if not plain_latin(table.part_table(lot)):
                            self.assertFalse(set(lot) & set(needed + (column,)))

    def test_the_other_condition_alone(self):
        for column in range(2):
            self.assertEqual(needed_for(PAIR, column), (1 - column,))
            self.assertFalse(seen_by_all(PAIR, column))
        self.assertFalse(is_fair(PAIR))

    def test_seen_but_not_needed(self):
        table = Table.parity(2, 2) + Table(2, [(0, 0), (0, 1), (1, 0)])
        self.assertTrue(seen_by_all(table, 0))
        self.assertEqual(needed_for(table, 0), (1,))
        self.assertFalse(is_fair(table))

    def test_one_column_exactly(self):
        for table in [table for table in SMALL + list(UNFAIR + FAIR) if table.columns >= 2]:
            whole = is_fair(table) and hangs_together(table)
            for column in range(table.columns):
                others = tuple(other for other in range(table.columns) if other != column)
                self.assertEqual(seen_by_all(table, column) and needed_for(table, column) == others, whole)

    def test_the_part_of_one_column(self):
        for table in SMALL[::5] + list(UNFAIR + FAIR):
            for column in range(table.columns):
                part = tuple(sorted(needed_for(table, column) + (column,)))
                rest = tuple(other for other in range(table.columns) if other not in part)
                first = table.part_table(part)
                holds = is_fair(first) and hangs_together(first)
                if rest:
                    second = table.part_table(rest)
                    beside = first.many * second.many <= 1300 and table.moved(part + rest) == first + second
                    holds = holds and beside
                self.assertEqual(seen_by_all(table, column), holds)
                if holds:
                    self.assertEqual(is_fair(table), not rest or is_fair(table.part_table(rest)))

    def test_a_row_more_or_less(self):
        for table in [table for table in FAIR if table.many <= 27]:
            for row in table.rows if table.many > 1 else ():
                less = Table(table.signs, [other for other in table.rows if other != row])
                self.assertEqual(is_fair(less), table.signs == 2 and table.many == 2)
            if table.signs ** table.columns <= 64:
                for row in product(range(table.signs), repeat=table.columns):
                    if row not in table:
                        more = Table(table.signs, table.rows + (row,))
                        self.assertEqual(is_fair(more), table.signs == 2 and table.many == 1)

    def test_made_tables(self):
        for number, table in enumerate(FAIR):
            for other in FAIR[number:]:
                small = table.columns + other.columns <= 6 and table.many * other.many <= 1300
                if table.signs == other.signs and small:
                    self.assertTrue(is_fair(table + other))
            for lot in all_lots(table.columns)[::3]:
                if lot:
                    self.assertTrue(is_fair(table.part_table(lot)))
                if len(lot) < table.columns:
                    self.assertTrue(is_fair(table - lot))
        for signs, columns in ((2, 8), (3, 6), (36, 2), (10, 3)):
            self.assertTrue(is_fair(Table.full(signs, columns)))
            self.assertTrue(is_fair(Table.parity(signs, columns)))


if __name__ == "__main__":
    unittest.main()
