"""Partings put in: [79] to [83], [89] and the section toldorfree/putting.py."""

import random
import unittest
from itertools import product

from tests.asking import Asking
from tests.samples import (BENT, FAIR, FIVE, FOUR, GROUPS, KLEIN, NO_INTEGERS, NO_LISTS, SORTS, UNFAIR, all_lots,
                           four_points, line, pairs_of_lots, plain_meet, ring, shuffled, square_of)
from toldorfree.classes import class_count, class_shares, classes
from toldorfree.errors import BadParting, NotFair, OtherShape
from toldorfree.fairness import is_fair, sees
from toldorfree.gaps import least_gap
from toldorfree.goings import goings
from toldorfree.meeting import meets
from toldorfree.partings import numbered, put_in, tells_parting
from toldorfree.putting import class_parting, goes_in, greatest_silent, meeting_column, why_not
from toldorfree.ranks import Ranks, closed_lots
from toldorfree.tables import Table

SMALL = [table for table in FAIR + SORTS if table.many <= 64]


def plain_view(table, lot, parting):
    beside = {}
    for row, sign in zip(table, parting):
        beside.setdefault(tuple(row[column] for column in lot), set()).add(sign)
    many = {len(signs) for signs in beside.values()}
    return "tells" if many == {1} else "free" if many == {table.signs} else "neither"


def plain_goes_in(table, parting):
    return all(plain_view(table, lot, parting) != "neither" for lot in all_lots(table.columns))


def some_partings(table, seed):
    """Constant ones, columns with other names, sums of columns, near ones, drawn ones, and classes of lots."""
    chance = random.Random(seed)
    names = chance.sample(range(table.signs), table.signs)
    found = [[table.signs - 1] * len(table), [names[row[0]] for row in table], [names[row[-1]] for row in table],
             [(row[0] + row[-1]) % table.signs for row in table], [sum(row) % table.signs for row in table],
             [chance.randrange(table.signs) for _ in table]]
    near = list(found[1])
    near[-1] = (near[-1] + 1) % table.signs
    found.append(near)
    for one, other in pairs_of_lots(table.columns, 4, seed):
        numbers = classes(table, one, other)
        if max(numbers) < table.signs:
            found.append(list(numbers))
    return found


class PuttingTest(Asking):
    def test_goes_in(self):
        answers = []
        for seed, table in enumerate(SMALL):
            for parting in some_partings(table, seed):
                wanted = plain_goes_in(table, parting)
                self.assertIs(goes_in(table, parting), wanted)
                self.assertIs(goes_in(table, tuple(parting)), wanted)
                if table.columns < 8:
                    self.assertIs(is_fair(put_in(table, parting)), wanted)
                answers.append(wanted)
        self.assertGreater(answers.count(True), 100)
        self.assertGreater(answers.count(False), 100)

    def test_all_partings_of_small_tables(self):
        for table in (Table.full(2, 2), Table.parity(2, 3), Table.full(3, 1), Table(3, [(1, 2)]), Table.parity(2, 4),
                      Table.parity(3, 2) + Table(3, [(0,)])):
            for parting in product(range(table.signs), repeat=len(table)):
                self.assertIs(goes_in(table, parting), is_fair(put_in(table, parting)))

    def test_greatest_silent(self):
        for seed, table in enumerate(SMALL):
            closed = list(closed_lots(table))
            for parting in some_partings(table, seed + 100):
                silent = [lot for lot in closed if not tells_parting(table, lot, parting)]
                wanted = [lot for lot in silent if not any(set(lot) < set(other) for other in silent)]
                self.assertEqual(greatest_silent(table, parting), tuple(wanted))
                self.is_tuples(greatest_silent(table, parting))
                self.assertIs(goes_in(table, parting), all(plain_view(table, lot, parting) == "free" for lot in wanted))
                if len(set(parting)) == 1:
                    self.assertEqual(wanted, [])

    def test_why_not(self):
        seen = 0
        for seed, table in enumerate(SMALL):
            for parting in some_partings(table, seed + 200):
                found = why_not(table, parting)
                self.assertIs(found is None, plain_goes_in(table, parting))
                if found is not None:
                    self.check_why(table, parting, found)
                    seen += 1
        self.assertGreater(seen, 100)

    def check_why(self, table, parting, found):
        self.is_tuples(found)
        lot, part, sign, one, other = found
        self.assertEqual(lot, next(lot for lot in all_lots(table.columns) if plain_view(table, lot, parting) == "neither"))
        parts = [tuple(row[column] for column in lot) for row in table]
        lacking = [(p, s) for p in sorted(set(parts)) for s in range(table.signs) if (p, s) not in zip(parts, parting)]
        self.assertEqual((part, sign), lacking[0])
        pairs = [(a, b) for a in range(len(parts)) for b in range(a + 1, len(parts))
                 if parts[a] == parts[b] and parting[a] != parting[b]]
        self.assertEqual((one, other), pairs[0])

    def test_why_not_of_some(self):
        table = Table.full(2, 2)
        self.assertEqual(why_not(table, (0, 1, 1, 1)), ((0,), (1,), 0, 0, 1))
        self.assertEqual(why_not(table, (0, 0, 1, 0)), ((0,), (0,), 1, 2, 3))
        self.assertEqual(why_not(Table.full(3, 1), [0, 1, 1]), ((), (), 2, 0, 1))
        self.assertIsNone(why_not(Table.full(3, 1), [0, 2, 1]))
        # the rows that are alike need not have the part-row that lacks a sign
        found = why_not(Table.full(3, 2), [0, 1, 2, 1, 2, 0, 2, 2, 1])
        self.assertEqual((found[0], found[1], found[2], found[3:]), ((0,), (2,), 0, (0, 1)))

    def test_eight_columns(self):
        table = Table.parity(2, 8)
        self.assertIs(goes_in(table, [row[3] for row in table]), True)
        self.assertIs(goes_in(table, [(row[3] + row[5] + row[6]) % 2 for row in table]), True)
        self.assertIs(goes_in(table, [row[3] * row[5] for row in table]), False)
        self.assertEqual(why_not(table, [row[3] * row[5] for row in table])[0], (3,))
        self.assertEqual(greatest_silent(table, [row[7] for row in table])[0], (0, 1, 2, 3, 4, 5))
        numbers = meeting_column(table, (0, 1, 2), (3, 4, 5, 6, 7))
        self.assertEqual(numbers, numbered([(row[0] + row[1] + row[2]) % 2 for row in table]))
        self.assertEqual(class_parting(table, (0, 1, 2), (3, 4, 5, 6, 7)), numbers)

    def test_afterwards(self):
        for seed, table in enumerate(SMALL):
            if table.columns < 8:
                ranks = Ranks(table)
                for parting in some_partings(table, seed + 300):
                    if goes_in(table, parting):
                        more = Ranks(put_in(table, parting))
                        for lot in all_lots(table.columns)[::3]:
                            told = tells_parting(table, lot, parting)
                            self.assertEqual(more.rank(lot), ranks.rank(lot))
                            self.assertEqual(more.rank(lot + (table.columns,)), ranks.rank(lot) + (not told))
                        if len(set(parting)) > 1:
                            self.assertEqual({parting.count(sign) for sign in range(table.signs)},
                                             {len(table) // table.signs})

    def test_wrong(self):
        bad = UNFAIR[3]
        for call in (goes_in, greatest_silent, why_not):
            for parting in NO_LISTS + ((), [0] * 3, (0,) * 5):
                self.wrong(BadParting, "place", -1, call, bad, parting)
            for value in NO_INTEGERS + (-1, 2):
                self.wrong(BadParting, "place", 1, call, bad, [0, value, value, 0])
            self.wrong(NotFair, "lot", (0, 2), call, bad, (0, 1, 1, 1))
            for table in UNFAIR:
                with self.assertRaises(NotFair):
                    call(table, (0,) * len(table))
        for call in (class_parting, meeting_column):
            self.wrong_lots(3, lambda lot: call(bad, lot, None))
            self.wrong_lots(3, lambda lot: call(bad, (2, 0), lot))
            self.wrong(NotFair, "lot", (0, 2), call, bad, (0, 1), (2,))

    def test_examples(self):
        table = Table.full(2, 2)
        self.assertEqual([goes_in(table, (0, 1, 1, 0)), greatest_silent(table, (0, 1, 1, 0)),
                          why_not(table, [0, 0, 0, 1])], [True, ((0,), (1,)), ((0,), (0,), 1, 2, 3)])
        self.assertEqual(meeting_column(Table.parity(2, 4), (0, 3), (2, 1)), (0, 1, 1, 0, 0, 1, 1, 0))


class ClassPartingTest(Asking):
    def test_class_parting(self):
        for seed, table in enumerate(SMALL):
            for one, other in pairs_of_lots(table.columns, 8, seed):
                numbers = classes(table, one, other)
                if max(numbers) < table.signs:
                    self.assertEqual(class_parting(table, one[::-1], list(other)), numbers)
                else:
                    self.wrong(OtherShape, "word", "classes", class_parting, table, one, other)

    def test_meeting_column(self):
        found = set()
        for seed, table in enumerate(SMALL):
            for one, other in pairs_of_lots(table.columns, 8, seed + 40):
                numbers = classes(table, one, other)
                right = (plain_meet(table, one, other) == 1 and meets(table, one, other)
                         and plain_goes_in(table, numbers))
                self.assertEqual(meeting_column(table, list(one), other[::-1]), numbers if right else None)
                found.add((plain_meet(table, one, other) == 1, meets(table, one, other), right))
        self.assertGreaterEqual(found, {(False, True, False), (True, True, True), (True, False, False)})

    def test_told_by_two_lots(self):
        for seed, table in enumerate(SMALL):
            ranks, lots = Ranks(table), pairs_of_lots(table.columns, 10, seed + 80)
            for parting in some_partings(table, seed + 400):
                if goes_in(table, parting) and len(set(parting)) > 1:
                    for one, other in lots:
                        if tells_parting(table, one, parting) and tells_parting(table, other, parting):
                            self.check_told_by_two(table, ranks, one, other, parting)

    def check_told_by_two(self, table, ranks, one, other, parting):
        meet, numbers = ranks.meet_number(one, other), classes(table, one, other)
        self.assertGreaterEqual(meet, 1)
        self.assertEqual(len(set(zip(numbers, parting))), len(set(numbers)))
        shared = sorted(set(ranks.told(one)) & set(ranks.told(other)))
        if ranks.is_modular(one, other):
            self.assertIs(tells_parting(table, shared, parting), True)
        if meet == 1:
            self.assertIs(meets(table, one, other), True)
            self.assertEqual(numbered(parting), numbers)
            self.assertEqual(meeting_column(table, one, other), numbers)

    def test_two_lots_that_make_up_all(self):
        ways = set()
        for table in (BENT, Table.parity(2, 5), ring(FOUR, 4), FIVE.with_copy(1), SORTS[3], SORTS[4],
                      Table.parity(3, 4), (BENT + Table(4, [(1,)])).moved((4, 1, 2, 3, 0))):
            ranks = Ranks(table)
            for one in all_lots(table.columns):
                other = tuple(column for column in range(table.columns) if column not in one)
                if ranks.meet_number(one, other) == 1:
                    found = meeting_column(table, one, other)
                    self.assertIs(meets(table, one, other), found is not None)
                    ways.add(found is None)
                    if found is not None:
                        self.check_who_tells(table, ranks, one, other, found)
        self.assertEqual(ways, {True, False})

    def check_who_tells(self, table, ranks, one, other, parting):
        for lot in all_lots(table.columns):
            inside = tuple(column for column in lot if column in one)
            outside = tuple(column for column in lot if column in other)
            told = ranks.meet_number(inside, other) == 1 or ranks.meet_number(one, outside) == 1
            self.assertIs(tells_parting(table, lot, parting), told)

    def test_no_such_parting_where_two_lots_do_not_meet(self):
        # all partings that go into a small table and that both lots tell
        for table in (Table.parity(2, 4), Table.parity(3, 4), Table.full(2, 2).with_copy(0).with_copy(1)):
            for one in all_lots(4):
                other = tuple(column for column in range(4) if column not in one)
                told = [parting for parting in goings(table) if len(set(parting)) > 1
                        and tells_parting(table, one, parting) and tells_parting(table, other, parting)]
                if plain_meet(table, one, other) == 1:
                    self.assertEqual(told, [classes(table, one, other)] if meets(table, one, other) else [])

    def test_elsewhere(self):
        table = Table(4, [(a, b, c, (b - a) % 4, (c - a) % 4, (c - b) % 4)
                          for a, b, c in product(range(4), repeat=3)])
        self.assertEqual(plain_meet(table, (0, 5), (1, 4)), 1)
        self.assertIs(meets(table, (0, 5), (1, 4)), True)
        self.assertEqual(class_shares(table, (0, 5), (1, 4)), (1,) * 4)
        parting = class_parting(table, (0, 5), (1, 4))
        self.assertEqual([parting.count(number) for number in range(4)], [16] * 4)
        self.assertTrue(tells_parting(table, (0, 5), parting) and tells_parting(table, (1, 4), parting))
        self.assertIs(goes_in(table, parting), False)
        self.assertEqual(plain_view(table, (2, 3), parting), "neither")
        self.assertEqual(sees(put_in(table, parting), (2, 3), 6), "neither")
        self.assertIsNone(meeting_column(table, (0, 5), (1, 4)))
        self.assertEqual(why_not(table, parting)[0], (2, 3))

    def test_opposite_pairs(self):
        for group, there in ((GROUPS["3"], True), (KLEIN, True), (FOUR, False), (GROUPS["5"], True), (GROUPS["2"], True)):
            found = meeting_column(four_points(group), (0, 5), (1, 4))
            self.assertIs(found is not None, there)
        self.assertEqual(class_count(four_points(GROUPS["turns"]), (0, 5), (1, 4)), 2)
        self.assertIsNone(meeting_column(four_points(GROUPS["turns"]), (0, 5), (1, 4)))

    def test_too_many_classes(self):
        self.wrong(OtherShape, "word", "classes", class_parting, FIVE, (0, 1), (1, 2))
        self.assertIsNone(meeting_column(FIVE, (0, 1), (1, 2)))
        self.assertEqual(class_parting(BENT, (0, 1), (2, 3)), classes(BENT, (0, 1), (2, 3)))
        self.assertIsNone(meeting_column(BENT, (0, 1), (2, 3)))

    def test_one_class(self):
        # two squares glued: a constant parting goes in, but lots with one class and the meet number 1 do not meet
        table = SORTS[2]
        self.assertEqual(plain_meet(table, (0, 2), (1, 3)), 1)
        self.assertEqual(class_parting(table, (0, 2), (1, 3)), (0,) * 125)
        self.assertIs(goes_in(table, (0,) * 125), True)
        self.assertIsNone(meeting_column(table, (0, 2), (1, 3)))
        self.assertIsNone(meeting_column(table, (), (0, 1)))


class FarApartTest(Asking):
    def test_far_apart(self):
        for table in (Table.full(2, 3), Table.full(3, 2), Table.full(3, 3), Table.full(5, 1), square_of(KLEIN),
                      Table.full(4, 2), Table.parity(2, 4), shuffled(Table.parity(3, 3), 2), line(5, 3)):
            each = {}
            for parting in goings(table):
                told = tuple(lot for lot in all_lots(table.columns) if tells_parting(table, lot, parting))
                each.setdefault(told, []).append(parting)
            for partings in each.values():
                gap = least_gap(put_in(table, partings[0]))
                for names in ([0, 1], [1, 0]):
                    # a parting with two signs exchanged is another one
                    others = partings + [tuple(names[sign] if sign < 2 else sign for sign in parting)
                                         for parting in partings]
                    for parting in partings[:30]:
                        for other in others[:60]:
                            apart = sum(x != y for x, y in zip(parting, other))
                            self.assertTrue(apart == 0 or apart >= gap)


if __name__ == "__main__":
    unittest.main()
