"""Lost, wrong and changed signs: [140] to [142] and the section toldorfree/losses.py."""

import unittest
from itertools import combinations, product

from tests.asking import Asking
from tests.samples import (BENT, FAIR, FIVE, NO_INTEGERS, NO_LISTS, SORTS, UNFAIR, all_lots, line, parts, plain_rank,
                           plain_tells)
from tests.wholes import MORE
from toldorfree.errors import BadNumber, BadRow, NoRow, NotFair, OtherShape
from toldorfree.farness import least_difference
from toldorfree.losses import (changed, least_changes, mends, nearest, refilled, ways_left, wrong_found, wrong_mended)
from toldorfree.tables import Table

TABLES = [table for table in FAIR + SORTS if table.many <= 128] + [MORE[0], Table.parity(2, 3).with_copy(0)]
REPEATED = [Table(2, [(0,) * 5, (1,) * 5]), Table(3, [(k,) * 7 for k in range(3)]), Table(5, [(k, k, k) for k in range(5)]),
            line(5, 6), line(7, 8), line(3, 4)]


def unlike(one, other):
    return sum(x != y for x, y in zip(one, other))


def rest(table, lot):
    return tuple(column for column in range(table.columns) if column not in lot)


class LostTest(Asking):
    def test_losses(self):
        answers = set()
        for table in TABLES:
            for lot in all_lots(table.columns)[::1 if table.columns < 6 else 5]:
                other = rest(table, lot)
                wanted = table.many // len(parts(table, other))
                for row in (table[0], table[table.many - 1]):
                    alike = [found for found in table if all(found[c] == row[c] for c in other)]
                    self.assertEqual(len(alike), wanted)
                self.assertEqual(ways_left(table, list(lot[::-1])), wanted)
                self.assertEqual(wanted, table.signs ** (plain_rank(table, range(table.columns)) - plain_rank(table, other)))
                tells = all(plain_tells(table, other, column) for column in lot)
                self.assertIs(mends(table, list(lot[::-1])), tells)
                self.assertIs(mends(table, lot), wanted == 1)
                answers.add(tells)
        self.assertEqual(answers, {True, False})

    def test_no_loss_and_all(self):
        for table in TABLES:
            whole = tuple(range(table.columns))
            self.assertEqual([mends(table, ()), ways_left(table, ())], [True, 1])
            self.assertEqual([mends(table, whole), ways_left(table, whole)], [table.many == 1, table.many])

    def test_refilled(self):
        for table in TABLES:
            for lot in all_lots(table.columns)[::3 if table.columns < 6 else 11]:
                for number in (0, table.many // 2):
                    row = [None if column in lot else sign for column, sign in enumerate(table[number])]
                    wanted = tuple(place for place, other in enumerate(table)
                                   if all(sign is None or sign == other[column] for column, sign in enumerate(row)))
                    self.assertEqual(refilled(table, row), wanted)
                    self.assertEqual(refilled(table, tuple(row)), wanted)
                    self.assertEqual(len(wanted), ways_left(table, lot))
        self.assertEqual(refilled(Table.parity(2, 3), (1, 1, 1)), ())
        self.assertEqual(refilled(Table.parity(2, 3), [None] * 3), (0, 1, 2, 3))

    def test_wrong_rows(self):
        bad, table = UNFAIR[0], Table.parity(3, 3)
        for row in NO_LISTS + ((), (0,), (0, 1, 1)):
            self.wrong(BadRow, "place", -1, refilled, bad, row)
            self.wrong(BadRow, "place", -1, nearest, bad, row)
        for entry in [value for value in NO_INTEGERS if value is not None] + [-1, 3]:
            self.wrong(BadRow, "place", 0, refilled, table, (entry, None, 5))
            self.wrong(BadRow, "place", 2, refilled, table, [None, 2, entry])
            self.wrong(BadRow, "place", 0, nearest, table, [entry, 0, 9])
            self.wrong(BadRow, "place", 1, nearest, table, (0, entry, 0))
        self.wrong(BadRow, "place", 1, nearest, table, (0, None, 0))
        self.wrong(BadRow, "place", 1, refilled, bad, (0, 2))
        self.wrong(BadRow, "place", 1, nearest, bad, (0, 2))
        self.wrong(NotFair, "lot", (0, 1), refilled, bad, [None, 1])
        self.wrong(NotFair, "lot", (0, 1), nearest, bad, [1, 1])

    def test_lots_come_first(self):
        bad = UNFAIR[-1]
        for call in (mends, ways_left):
            self.wrong_lots(5, lambda lot: call(bad, lot))
            self.wrong(NotFair, "lot", (3, 4), call, bad, ())
            for table in UNFAIR:
                with self.assertRaises(NotFair):
                    call(table, ())


class WrongSignsTest(Asking):
    def test_numbers(self):
        for table in TABLES + REPEATED:
            pairs = [unlike(table[0], other) for other in table.rows[1:]]
            if pairs:
                least = min(pairs)
                self.assertEqual([wrong_found(table), wrong_mended(table)], [least - 1, (least - 1) // 2])
                self.assertEqual(least, least_difference(table))
            else:
                self.assertEqual([wrong_found(table), wrong_mended(table)], [None, None])
        self.assertEqual([wrong_mended(table) for table in REPEATED], [2, 3, 1, 2, 3, 1])
        for table in UNFAIR:
            for call in (wrong_found, wrong_mended):
                with self.assertRaises(NotFair):
                    call(table)

    def changes(self, table, row, many):
        """All rows of signs that are unlike row at exactly so many columns."""
        for lot in combinations(range(table.columns), many):
            choices = [[sign for sign in range(table.signs) if sign != row[column]] for column in lot]
            for signs in product(*choices):
                found = list(row)
                for column, sign in zip(lot, signs):
                    found[column] = sign
                yield tuple(found)

    def test_few_wrong_signs_are_found(self):
        for table in [table for table in TABLES + REPEATED if 1 < table.many <= 64 and table.signs ** table.columns <= 20000]:
            least = wrong_found(table) + 1
            for row in (table[0], table[table.many // 2]):
                for many in range(1, least):
                    self.assertFalse(any(found in table for found in self.changes(table, row, many)))
                self.assertTrue(any(found in table for found in self.changes(table, row, least)))

    def test_few_wrong_signs_are_mended(self):
        for table in [table for table in TABLES + REPEATED if 1 < table.many <= 27 and table.signs ** table.columns <= 3000]:
            most = wrong_mended(table)
            row = table[table.many // 3]
            for many in range(most + 1):
                for found in self.changes(table, row, many):
                    self.assertEqual(nearest(table, found), (many, (table.number_of(row),)))
            others = [nearest(table, found)[1] for found in self.changes(table, row, most + 1)]
            self.assertTrue(any(numbers != (table.number_of(row),) for numbers in others))

    def test_nearest(self):
        for table in TABLES[::2]:
            for row in list(table.rows[:3]) + [tuple((sign + at) % table.signs for at, sign in enumerate(table[0]))]:
                far = [unlike(row, other) for other in table]
                wanted = (min(far), tuple(number for number, many in enumerate(far) if many == min(far)))
                self.assertEqual(nearest(table, list(row)), wanted)
                self.is_tuples(nearest(table, row))

    def test_examples(self):
        table = Table(2, [(0, 0, 0), (1, 1, 1)])
        self.assertEqual([wrong_found(table), wrong_mended(table), least_changes(table, 0)], [2, 1, 2])
        self.assertEqual([nearest(table, (0, 1, 0)), refilled(table, [None, None, 1])], [(1, (0,)), (1,)])


class ChangedTest(Asking):
    def test_changes(self):
        for table in TABLES:
            for column in range(table.columns):
                if len(parts(table, (column,))) > 1:
                    wanted = set()
                    for row in table.rows[::max(1, table.many // 5)]:
                        for sign in range(table.signs):
                            found = changed(table, list(row), column, sign)
                            self.check_changed(table, row, column, sign, found)
                            if sign != row[column]:
                                wanted.add(unlike(row, found) - 1)
                    self.assertEqual({least_changes(table, column)}, wanted)

    def check_changed(self, table, row, column, sign, found):
        near = sorted((unlike(row, other), other) for other in table if other[column] == sign)
        self.assertEqual(found, near[0][1])
        self.assertIsInstance(found, tuple)
        if sign == row[column]:
            self.assertEqual(found, row)

    def test_closed_lots(self):
        for table in TABLES:
            closed = [lot for lot in all_lots(table.columns)
                      if not any(plain_tells(table, lot, column) for column in rest(table, lot))]
            for column in range(table.columns):
                if len(parts(table, (column,))) > 1:
                    most = max(len(lot) for lot in closed if column not in lot)
                    self.assertEqual(least_changes(table, column), table.columns - 1 - most)
        self.assertEqual([least_changes(FIVE, 0), least_changes(BENT, 3), least_changes(Table.full(2, 5), 4),
                          least_changes(line(7, 8), 0)], [1, 1, 0, 6])

    def test_wrong(self):
        bad, table = UNFAIR[0], Table.parity(3, 3) + Table(3, [(2,)])
        for column in NO_INTEGERS + (-1, 2):
            self.wrong(BadNumber, "name", "column", least_changes, bad, column)
            self.wrong(BadNumber, "name", "column", changed, bad, None, column, "x")
        for sign in NO_INTEGERS + (-1, 2):
            self.wrong(BadNumber, "name", "sign", changed, bad, None, 0, sign)
        self.wrong(NotFair, "lot", (0, 1), least_changes, bad, 1)
        self.wrong(NotFair, "lot", (0, 1), changed, bad, None, 0, 1)
        self.wrong(OtherShape, "word", "fixed", least_changes, table, 3)
        self.wrong(OtherShape, "word", "fixed", changed, table, None, 3, 2)
        for row in NO_LISTS + ((), (0, 0, 0), (1, 0, 0, 2), [0, 0, 0, True], ((0,),) * 4):
            self.wrong(NoRow, "row", row, changed, table, row, 0, 1)
        self.wrong(BadNumber, "name", "sign", changed, table, None, 0, 3)
        self.assertEqual(changed(table, [1, 2, 0, 2], 0, 0), (0, 0, 0, 2))


if __name__ == "__main__":
    unittest.main()
