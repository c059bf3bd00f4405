"""Laid, ring and bent tables: [71] to [75] and the section toldorfree/laid.py."""

import random
import unittest
from itertools import product

from tests.asking import Asking
from tests.samples import (BENT, FAIR, FIVE, FOUR, GROUPS, KLEIN, NO_INTEGERS, NO_LISTS, SORTS, UNFAIR, all_lots, bent,
                           every_table, four_points, pairs_of_lots, plain_latin, ring, shuffled)
from tests.samples import square_of as square_plainly
from toldorfree.duals import dual_spectrum
from toldorfree.errors import BadGroup, BadLot, BadNumber, BadRow, TooMany
from toldorfree.fairness import is_fair, is_latin
from toldorfree.foursomes import foursomes, most_foursomes
from toldorfree.groups import Group
from toldorfree.laid import bent_table, is_laid, laid_table, ring_table, square_of
from toldorfree.meeting import meets
from toldorfree.ranks import Ranks
from toldorfree.spectra import spectrum
from toldorfree.tables import Table

TURNS, THREE, TWO = Group.turns(), Group.sums(3), Group.sums(2)


def odd(group, seed):
    """The group with its elements numbered anew, so that 0 is not always the unit."""
    names = random.Random(seed).sample(range(group.size), group.size)
    places = [names.index(x) for x in range(group.size)]
    return Group([[names[group.times(places[x], places[y])] for y in range(group.size)] for x in range(group.size)])


def third(groups, x, y, z):
    return tuple(group.product_of([a, group.inverse(b), c]) for group, a, b, c in zip(groups, x, y, z))


def plain_laid(table, groups):
    return all(third(groups, x, y, z) in table for x in table for y in table for z in table)


def plain_closing(groups, rows):
    """The least set of rows that holds the rows and is laid."""
    found = set(map(tuple, rows))
    while True:
        more = {third(groups, x, y, z) for x in found for y in found for z in found}
        if more <= found:
            return tuple(sorted(found))
        found |= more


class LaidTest(Asking):
    def test_is_laid_for_all_small_tables(self):
        for signs, columns, groups in ((2, 2, [TWO] * 2), (2, 3, [TWO, odd(TWO, 2), TWO]), (3, 1, [THREE]), (4, 1, [FOUR]),
                                       (4, 1, [KLEIN]), (4, 1, [odd(FOUR, 1)]), (6, 1, [TURNS]), (6, 1, [Group.sums(6)])):
            for table in every_table(signs, columns)[::3 if columns == 3 else 1]:
                self.assertIs(is_laid(table, groups), plain_laid(table, groups))

    def test_is_laid(self):
        chance = random.Random(2)
        each = {4: (FOUR, KLEIN, odd(FOUR, 3), odd(KLEIN, 4)), 5: (GROUPS["5"], odd(GROUPS["5"], 5)),
                6: (TURNS, GROUPS["6"], odd(TURNS, 6)), 3: (THREE, odd(THREE, 7)), 2: (TWO, odd(TWO, 8))}
        laid = 0
        for table in [table for table in FAIR + SORTS + UNFAIR if table.many <= 16 and table.signs in each]:
            for _ in range(5):
                groups = [chance.choice(each[table.signs]) for _ in range(table.columns)]
                self.assertIs(is_laid(table, tuple(groups)), plain_laid(table, groups))
                laid += is_laid(table, groups)
        self.assertGreater(laid, 30)

    def test_laid_tables(self):
        chance = random.Random(3)
        for groups in ([FOUR, KLEIN], [TURNS], [odd(TURNS, 1), TURNS], [THREE] * 3, [KLEIN, odd(FOUR, 2), FOUR],
                       [GROUPS["5"]] * 2, [Group.sums(12)]):
            for many in (1, 1, 2, 2, 3, 4):
                size = groups[0].size
                rows = [list(row) for row in {tuple(chance.randrange(size) for _ in groups) for _ in range(many)}]
                found = laid_table(groups, rows)
                if len(found) <= 40:
                    self.assertEqual(found.rows, plain_closing(groups, rows))
                self.assertEqual((found.signs, found.columns), (size, len(groups)))
                self.assertTrue(is_laid(found, groups))
                self.assertTrue(all(row in found for row in rows))
                self.assertEqual(laid_table(tuple(groups), found.rows), found)

    def test_one_row_is_laid(self):
        for group in (TWO, TURNS, odd(FOUR, 9)):
            self.assertEqual(laid_table([group] * 2, ([1, 0],)).rows, ((1, 0),))
            self.assertIs(is_laid(Table(group.size, [(1, 0)]), [group] * 2), True)

    def test_all_lots_meet_in_fair_laid_tables(self):
        tables = [(ring_table(group, 4), [group] * 4) for group in (FOUR, KLEIN, GROUPS["5"])]
        tables.append((laid_table([TURNS, TURNS], [(x, x) for x in range(6)]), [TURNS] * 2))
        tables.append((Table.full(6, 3), [TURNS, odd(TURNS, 2), GROUPS["6"]]))
        for table, groups in tables:
            self.assertTrue(is_laid(table, groups) and is_fair(table))
            for lots in pairs_of_lots(table.columns, 12, 1):
                self.assertIs(meets(table, *lots), True)

    def test_two_and_three_signs(self):
        for table in FAIR + SORTS:
            if table.signs <= 3:
                self.assertIs(is_laid(table, [Group.sums(table.signs)] * table.columns), True)
                for lots in pairs_of_lots(table.columns, 6, 1):
                    self.assertIs(meets(table, *lots), True)

    def test_laid_tables_need_not_be_fair(self):
        self.assertFalse(is_fair(laid_table([FOUR], [(0,), (2,)])))

    def test_no_square_of_a_group_is_laid_by_a_group_that_is_not_abelian(self):
        self.assertIs(is_laid(square_of(TURNS), [TURNS] * 3), False)
        self.assertIs(is_laid(BENT, [FOUR] * 4), False)
        self.assertIs(is_laid(FIVE, [GROUPS["5"]] * 3), False)

    def test_example(self):
        groups = [Group.sums(4), Group.sums(2) * Group.sums(2)]
        self.assertEqual(laid_table(groups, [(0, 0), (1, 2)]).rows, ((0, 0), (1, 2), (2, 0), (3, 2)))
        self.assertEqual([is_laid(ring_table(groups[0], 3), [groups[0]] * 3),
                          is_laid(ring_table(groups[0], 3), (groups[1],) * 3)], [True, False])


class WrongLaidTest(Asking):
    def test_groups_of_a_table(self):
        bad = UNFAIR[3]
        for groups in NO_LISTS + ((), [TWO] * 2, [TWO] * 4, TWO):
            self.wrong(BadGroup, "place", -1, is_laid, bad, groups)
        for group in (THREE, None, 2, TWO.products, Group):
            self.wrong(BadGroup, "place", 0, is_laid, bad, [group] * 3)
            self.wrong(BadGroup, "place", 2, is_laid, bad, (TWO, TWO, group))
        self.assertIs(is_laid(bad, [TWO] * 3), False)

    def test_groups_and_rows(self):
        for groups in NO_LISTS + ((), [], [TWO] * 9, TWO):
            self.wrong(BadGroup, "place", -1, laid_table, groups, None)
        for group in (None, 2, TWO.products, Group):
            self.wrong(BadGroup, "place", 0, laid_table, [group, TWO], None)
            self.wrong(BadGroup, "place", 1, laid_table, (TWO, group), None)
        self.wrong(BadGroup, "place", 1, laid_table, (THREE, TWO, THREE), None)
        for rows in NO_LISTS + ((), [], [(0, 0)] * 1301):
            self.wrong(BadRow, "place", -1, laid_table, [TWO, TWO], rows)
        wrong = NO_LISTS + ((), (0,), (0, 0, 0), (0, 2), [-1, 0]) + tuple((0, x) for x in NO_INTEGERS)
        for row in wrong:
            self.wrong(BadRow, "place", 0, laid_table, (TWO, TWO), [row, row])
            self.wrong(BadRow, "place", 1, laid_table, (TWO, TWO), ([0, 0], row))
        self.wrong(BadRow, "place", 2, laid_table, (TWO, TWO), ([0, 0], (0, 1), (0, 0)))
        self.assertEqual(len(laid_table([TWO] * 8, [(0,) * 8])), 1)

    def test_too_many(self):
        groups = [Group.sums(11)] * 4
        units = [tuple(int(place == at) for at in range(4)) for place in range(4)]
        self.wrong(TooMany, "limit", 1300, laid_table, groups, units)
        self.assertEqual(len(laid_table(groups, units[:3])), 121)
        self.assertEqual(len(laid_table([TURNS] * 4, Table.full(6, 4).rows)), 1296)
        # 1300 rows may be passed, but no laid table has just so many
        rows = list(product(range(11), repeat=3))
        self.wrong(TooMany, "limit", 1300, laid_table, groups[:3], rows[:1300])
        self.wrong(BadRow, "place", -1, laid_table, groups[:3], rows[:1301])
        with self.assertRaises(TooMany):
            laid_table([GROUPS["6"]] * 8, [(0,) * 8] + [(0,) * at + (1,) + (0,) * (7 - at) for at in range(8)])

    def test_lists_that_change(self):
        groups, rows = [FOUR, FOUR], [[0, 0], [1, 2]]
        table = laid_table(groups, rows)
        before = table.rows
        groups.append(FOUR)
        rows[0][0] = 3
        self.assertEqual(table.rows, before)


class MadeTest(Asking):
    def test_squares(self):
        for group in list(GROUPS.values()) + [odd(TURNS, 1), Group.sums(12), odd(Group.sums(7), 2)]:
            table = square_of(group)
            self.assertEqual(table, square_plainly(group))
            self.assertTrue(is_latin(table) and is_fair(table))

    def test_rings(self):
        for group in list(GROUPS.values()) + [odd(TURNS, 1), odd(FOUR, 2)]:
            for columns in range(2, 9):
                if group.size ** (columns - 1) <= 300:
                    table = ring_table(group, columns)
                    self.assertEqual(table, ring(group, columns))
                    self.assertTrue(is_latin(table) and is_fair(table))
                    if group.is_abelian():
                        self.assertIs(is_laid(table, [group] * columns), True)
        for row in ring_table(TURNS, 4).rows[::7]:
            self.assertEqual(TURNS.product_of(row), TURNS.unit)

    def test_wrong_rings(self):
        for columns in NO_INTEGERS + (-1, 0, 1, 9):
            self.wrong(BadNumber, "name", "columns", ring_table, Group.sums(12), columns)
        self.wrong(TooMany, "limit", 1300, ring_table, Group.sums(12), 4)
        self.wrong(TooMany, "limit", 1300, ring_table, THREE, 8)
        self.wrong(TooMany, "limit", 1300, ring_table, Group.sums(11), 4)
        self.assertEqual(len(ring_table(GROUPS["6"], 5)), 1296)
        self.assertEqual(len(ring_table(Group.sums(10), 4)), 1000)
        self.assertEqual(len(ring_table(TWO, 8)), 128)
        self.assertEqual(ring_table(FOUR, 2).rows, ((0, 0), (1, 3), (2, 2), (3, 1)))

    def test_bent_tables(self):
        chance = random.Random(4)
        for columns in range(3, 7):
            lots = all_lots(columns - 1)
            for many in (0, 1, 1, 2, 3, 5):
                bends = [chance.choice(lots) for _ in range(many)]
                table = bent_table(columns, [list(lot[::-1]) for lot in bends])
                self.assertEqual(table, bent(columns, bends))
                self.assertEqual(len(table), 4 ** (columns - 1))
                self.assertTrue(is_latin(table) and is_fair(table))
                if columns <= 4:
                    self.assertTrue(plain_latin(table))

    def test_bends(self):
        self.assertEqual(bent_table(3, []), ring_table(KLEIN, 3))
        self.assertEqual(bent_table(4, ((0, 1), (0, 1))), bent_table(4, ()))
        self.assertEqual(bent_table(4, [(0, 1), [1, 0], (0, 1)]), bent_table(4, [(0, 1)]))
        plain, turned = bent_table(3, []), bent_table(3, [()])
        self.assertEqual(turned.rows, tuple(row[:2] + (row[2] ^ 1,) for row in plain))
        self.assertIn((2, 2, 1), bent_table(3, [(0, 1)]))
        self.assertIn((2, 1, 3), bent_table(3, [(0, 1)]))
        self.assertIn((2, 1, 2), bent_table(3, [(0,)]))
        self.assertIn((2, 2, 2, 2), bent_table(4, [(0, 1)] + [(0, 1, 2)]))

    def test_wrong_bends(self):
        for columns in NO_INTEGERS + (-1, 0, 2, 7):
            self.wrong(BadNumber, "name", "columns", bent_table, columns, None)
        for lots in NO_LISTS:
            self.wrong(BadLot, "place", -1, bent_table, 3, lots)
        for lot in NO_LISTS + ((2,), [0, 2], (0, 0), (-1,)) + tuple((x,) for x in NO_INTEGERS):
            self.wrong(BadLot, "place", 0, bent_table, 3, [lot, None])
            self.wrong(BadLot, "place", 2, bent_table, 3, [(0, 1), (), lot])
        self.assertEqual(len(bent_table(6, [(0, 1, 2, 3, 4)])), 1024)


class MeetingTest(Asking):
    def test_meeting_in_bent_tables(self):
        chance = random.Random(6)
        apart = 0
        for columns in (4, 4, 4, 4, 4, 5, 5, 5, 5, 6):
            bends = [chance.choice(all_lots(columns - 1)) for _ in range(chance.choice((1, 2, 2, 3)))]
            table = bent_table(columns, bends)
            for lot in all_lots(columns - 1):
                if 2 <= len(lot) <= columns - 2:
                    rest = [column for column in range(columns) if column not in lot]
                    told = self.told_meeting(columns, bends, lot)
                    self.assertIs(meets(table, lot, rest), told)
                    apart += not told
        self.assertGreater(apart, 10)

    def told_meeting(self, columns, bends, lot):
        """Whether the lot and its rest meet, by the bends alone."""
        others = [column for column in range(columns - 1) if column not in lot]

        def bent_by(first, second):
            highs = {**dict(zip(lot, first)), **dict(zip(others, second))}
            return sum(all(highs[column] for column in bend) for bend in bends)

        changes = {}
        for first in product((0, 1), repeat=len(lot)):
            values = [bent_by(first, second) % 2 for second in product((0, 1), repeat=len(others))]
            changes.setdefault(sum(first) % 2, []).append(values)
        # a difference that is the same for every y: all lines are alike up to a constant
        return all(len({(a + b) % 2 for a, b in zip(lines[0], line)}) == 1 for lines in changes.values() for line in lines)

    def test_ranks_do_not_tell_meeting(self):
        table = bent_table(4, [(0, 1, 2)])
        for group in (FOUR, KLEIN):
            straight = ring_table(group, 4)
            self.assertTrue(Ranks(straight) == Ranks(table))
            self.assertEqual(spectrum(straight, straight[0]), spectrum(table, table[5]))
            self.assertEqual(dual_spectrum(4, Ranks(straight)), dual_spectrum(4, Ranks(table)))
            self.assertIs(meets(straight, (0, 1), (2, 3)), True)
            self.assertIs(meets(table, (0, 1), (2, 3)), False)
            self.assertLess(foursomes(table, (0, 1), (2, 3)), foursomes(straight, (0, 1), (2, 3)))
            self.assertEqual(foursomes(straight, (0, 1), (2, 3)), most_foursomes(4, Ranks(table), (0, 1), (2, 3)))

    def test_four_points_of_an_abelian_group_are_laid(self):
        for group in (FOUR, KLEIN, THREE):
            self.assertIs(is_laid(four_points(group), [group] * 6), True)
        self.assertIs(is_laid(shuffled(four_points(FOUR), 1), [FOUR] * 6), False)


if __name__ == "__main__":
    unittest.main()
