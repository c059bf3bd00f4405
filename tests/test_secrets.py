"""Dealt columns: [136] to [139], [147], [148] and the section toldorfree/secrets.py."""

import unittest
from itertools import combinations, product

from tests.asking import Asking
from tests.samples import (BENT, FAIR, FIVE, FOUR, GROUPS, NO_INTEGERS, SORTS, UNFAIR, all_lots, every_table, parts,
                           plain_circuits, plain_free, plain_rank, plain_tells, ring, smaller)
from tests.wholes import MIXED, MORE, TURNS, plain_splits
from toldorfree.breaks import needed_for, seen_by_all
from toldorfree.circuits import circuits_of
from toldorfree.errors import BadLot, BadNumber, NoRow, NotFair, OtherShape
from toldorfree.fairness import is_fair, told_by
from toldorfree.glue import unglued
from toldorfree.laid import ring_table
from toldorfree.meeting import meets
from toldorfree.ranks import hanging_parts
from toldorfree.secrets import link_names, links, needed, openers, opens, what_seen
from toldorfree.tables import Table

TABLES = [table for table in FAIR + SORTS if table.many <= 128] + [
    Table.parity(2, 4).with_copy(1) + Table(2, [(1,)]), Table.parity(3, 3) + Table.parity(3, 2), MORE[0]]


def loose(table):
    """The columns that are not fixed."""
    return [column for column in range(table.columns) if len(parts(table, (column,))) > 1]


def lots_without(table, columns, step=1):
    return [lot for lot in all_lots(table.columns) if not set(lot) & set(columns)][::step]


def plain_openers(table, column):
    found = [lot for lot in lots_without(table, (column,)) if plain_tells(table, lot, column)]
    return tuple(lot for lot in found if not any(part in found for part in smaller(lot)))


class OpensTest(Asking):
    def test_opens(self):
        for table in TABLES:
            for column in loose(table)[:4]:
                for lot in lots_without(table, (column,), 1 if table.columns < 6 else 5):
                    self.assertIs(opens(table, column, list(lot[::-1])), plain_tells(table, lot, column))

    def test_openers(self):
        kinds = set()
        for table in TABLES:
            for column in loose(table):
                found = openers(table, column)
                self.is_tuples(found)
                if table.columns <= 6:
                    self.assertEqual(found, plain_openers(table, column))
                circuits = [tuple(other for other in lot if other != column) for lot in circuits_of(table) if column in lot]
                self.assertEqual(found, tuple(circuits))
                kinds.add(min(len(found), 3))
        self.assertEqual(kinds, {0, 1, 2, 3})

    def test_needed(self):
        for table in TABLES:
            for column in loose(table):
                part = [lot for lot in hanging_parts(table) if column in lot][0]
                wanted = tuple(other for other in part if other != column)
                self.assertEqual(needed(table, column), wanted)
                self.assertEqual(set(wanted), {other for lot in openers(table, column) for other in lot})

    def test_all_or_nothing(self):
        for table in TABLES:
            for column in loose(table)[-2:]:
                for lot in lots_without(table, (column,), 1 if table.columns < 5 else 7):
                    for part in sorted(parts(table, lot))[::9]:
                        signs = [row[column] for row in table if all(row[c] == s for c, s in zip(lot, part))]
                        wanted = tuple(signs.count(sign) for sign in range(table.signs))
                        self.assertEqual(what_seen(table, column, lot[::-1], list(part)), wanted)
                        if plain_tells(table, lot, column):
                            self.assertEqual(sorted(wanted)[:-1], [0] * (table.signs - 1))
                        else:
                            self.assertEqual(len(set(wanted)), 1)
        self.assertEqual(what_seen(Table.full(5, 1), 0, (), []), (1,) * 5)

    def test_one_column_is_enough(self):
        seen = 0
        for table in every_table(2, 2) + every_table(2, 3) + list(UNFAIR) + TABLES[::3]:
            for column in range(table.columns):
                others = tuple(other for other in range(table.columns) if other != column)
                if table.columns >= 2 and seen_by_all(table, column) and needed_for(table, column) == others:
                    self.assertIs(is_fair(table), True)
                    self.assertEqual(loose(table), list(range(table.columns)))
                    for dealt in range(table.columns):
                        self.assertEqual(needed(table, dealt), tuple(c for c in range(table.columns) if c != dealt))
                    seen += 1
        self.assertGreater(seen, 20)

    def test_rings(self):
        for group, columns in ((GROUPS["2"], 2), (GROUPS["3"], 2), (FOUR, 3), (TURNS, 4), (GROUPS["2"], 7)):
            table = ring_table(group, columns)
            for column in range(columns):
                others = tuple(other for other in range(columns) if other != column)
                self.assertEqual(openers(table, column), (others,))
                self.assertEqual(needed(table, column), others)
                for lot in [lot for lot in smaller(others)][::3]:
                    part = tuple(table[1][other] for other in lot)
                    self.assertEqual(len(set(what_seen(table, column, lot, part))), 1)

    def test_examples(self):
        table = Table.parity(3, 3)
        self.assertEqual([openers(table, 0), what_seen(table, 0, (1,), (2,)), what_seen(table, 0, (1, 2), (2, 2))],
                         [((1, 2),), (1, 1, 1), (0, 0, 1)])
        self.assertEqual([links(table, (), 1, 2), links(table, (0,), 1, 2), link_names(table, (0,), (1,), 1, 2)],
                         ["none", "linked", (2, 1, 0)])


class LinksTest(Asking):
    def plainly(self, table, lot, first, second):
        words = {(True, True): "both", (True, False): "first", (False, True): "second"}
        found = plain_tells(table, lot, first), plain_tells(table, lot, second)
        if found in words:
            return words[found]
        return "linked" if plain_tells(table, lot + (first,), second) else "none"

    def cases(self):
        for table in TABLES:
            if table.many <= 81:
                for first, second in list(combinations(loose(table), 2))[::3]:
                    for lot in lots_without(table, (first, second), 1 if table.columns < 6 else 3):
                        yield table, lot, first, second

    def test_words(self):
        found = set()
        for table, lot, first, second in self.cases():
            word = self.plainly(table, lot, first, second)
            self.assertEqual(links(table, list(lot[::-1]), first, second), word)
            turned = {"first": "second", "second": "first"}.get(word, word)
            self.assertEqual(links(table, lot, second, first), turned)
            if word in ("linked", "none"):
                ranks = [plain_rank(table, lot), plain_rank(table, lot + (first, second))]
                self.assertIs(word == "linked", ranks[1] == ranks[0] + 1)
            found.add(word)
        self.assertEqual(found, {"both", "first", "second", "linked", "none"})

    def test_names(self):
        for table, lot, first, second in list(self.cases())[::9]:
            word = links(table, lot, first, second)
            for part in sorted(parts(table, lot))[::4]:
                pairs = [(row[first], row[second]) for row in table if all(row[c] == s for c, s in zip(lot, part))]
                found = link_names(table, lot[::-1], list(part), first, second)
                if word == "linked":
                    self.assertEqual(sorted(found), list(range(table.signs)))
                    self.assertEqual({(sign, name) for sign, name in enumerate(found)}, set(pairs))
                else:
                    self.assertIsNone(found)
                if word == "none":
                    self.assertEqual({pairs.count(pair) for pair in product(range(table.signs), repeat=2)},
                                     {len(pairs) // table.signs ** 2})

    def test_told_columns(self):
        for table, lot, first, second in list(self.cases())[::2]:
            word = links(table, lot, first, second)
            one, other = told_by(table, lot + (first,)), told_by(table, lot + (second,))
            if word == "linked":
                self.assertEqual(one, other)
                self.assertTrue(plain_tells(table, lot + (second,), first))
            if word == "none":
                self.assertEqual(set(one) & set(other), set(told_by(table, lot)))
            if word in ("linked", "none"):
                self.assertIs(meets(table, lot + (first,), lot + (second,)), True)

    def test_no_link(self):
        self.assertIsNone(link_names(FIVE, (), (), 0, 1))
        self.assertEqual(links(Table(3, [(k, k) for k in range(3)]), [], 1, 0), "linked")
        self.assertEqual(link_names(Table(3, [(k, 2 - k) for k in range(3)]), (), (), 1, 0), (2, 1, 0))


class CutsTest(Asking):
    def test_opened_through_a_cut(self):
        asked = 0
        for table in [table for table in MIXED + MORE + (BENT, ring(FOUR, 4)) if table.many <= 256]:
            for lot in plain_splits(table)[::4]:
                one, other = unglued(table, lot)
                rest = [column for column in range(table.columns) if column not in lot]
                last, end = len(lot), len(rest)
                for column in lot[:2]:
                    at = lot.index(column)
                    self.check_lots(table, lot, rest, column, at, one, other)
                    wanted = set()
                    for opener in openers(one, at):
                        here = [lot[place] for place in opener if place != last]
                        if last in opener:
                            wanted |= {tuple(sorted(here + [rest[place] for place in more])) for more in openers(other, end)}
                        else:
                            wanted.add(tuple(here))
                    self.assertEqual(set(openers(table, column)), wanted)
                    asked += 1
        self.assertGreater(asked, 20)

    def check_lots(self, table, lot, rest, column, at, one, other):
        for found in lots_without(table, (column,), 3):
            here = [lot.index(place) for place in found if place in lot]
            there = [rest.index(place) for place in found if place in rest]
            if opens(other, len(rest), there):
                here.append(len(lot))
            self.assertIs(opens(table, column, found), opens(one, at, here))


class WrongTest(Asking):
    def test_columns_and_lots_come_first(self):
        bad = UNFAIR[-1]
        for column in NO_INTEGERS + (-1, 5):
            self.wrong(BadNumber, "name", "column", opens, bad, column, "x")
            self.wrong(BadNumber, "name", "column", openers, bad, column)
            self.wrong(BadNumber, "name", "column", needed, bad, column)
            self.wrong(BadNumber, "name", "column", what_seen, bad, column, "x", "x")
            self.wrong(BadNumber, "name", "first", links, bad, (), column, "x")
            self.wrong(BadNumber, "name", "second", links, bad, (), 0, column)
            self.wrong(BadNumber, "name", "first", link_names, bad, (), None, column, "x")
            self.wrong(BadNumber, "name", "second", link_names, bad, (), None, 0, column)
        self.wrong(BadNumber, "name", "second", links, bad, (), 3, 3)
        self.wrong(BadNumber, "name", "second", link_names, bad, (), None, 3, 3)
        self.wrong_lots(5, lambda lot: opens(bad, 0, lot))
        self.wrong_lots(5, lambda lot: what_seen(bad, 0, lot, None))
        self.wrong_lots(5, lambda lot: links(bad, lot, 9, 9))
        self.wrong_lots(5, lambda lot: link_names(bad, lot, None, 9, 9))

    def test_unfair_tables(self):
        bad = UNFAIR[-1]
        for call, *values in ((opens, 0, (0,)), (openers, 0), (needed, 4), (what_seen, 0, (0,), None), (links, (0,), 0, 1),
                              (link_names, (0,), None, 0, 1)):
            self.wrong(NotFair, "lot", (3, 4), call, bad, *values)
            for table in UNFAIR:
                if table.columns >= 2:
                    with self.assertRaises(NotFair):
                        call(table, *[0 if value == 4 else value for value in values])

    def test_fixed_columns(self):
        table = Table.parity(2, 3) + Table(2, [(1,)])
        for call, *values in ((opens, 3, (3,)), (openers, 3), (needed, 3), (what_seen, 3, (3,), None), (links, (0, 3), 0, 3),
                              (links, (0, 3), 3, 0), (link_names, (0, 3), None, 3, 0)):
            self.wrong(OtherShape, "word", "fixed", call, table, *values)
        self.assertIs(opens(table, 0, (3, 1, 2)), True)

    def test_lots_with_the_column(self):
        table = Table.parity(2, 4)
        for call, *values in ((opens, 0, (1, 0)), (what_seen, 2, (2,), None), (links, (0, 3), 0, 1), (links, (0, 3), 1, 3),
                              (link_names, [2], None, 2, 1), (link_names, [1, 2], (0, 0), 3, 1)):
            self.wrong(BadLot, "place", -1, call, table, *values)

    def test_no_part_rows(self):
        table = Table.parity(2, 4).with_copy(0)
        for part in (None, 0, (), (0,), (0, 1), [2, 0], (0, 0, 0), "00", (True, True), [(0,)], {0: 0}):
            self.wrong(NoRow, "row", part, self.seen, table, part)
            self.wrong(NoRow, "row", part, self.linked, table, part)
        # a lot that does not link the columns does not come before a wrong part
        self.wrong(NoRow, "row", (2,), link_names, table, (1,), (2,), 2, 3)
        self.assertIsNone(link_names(table, (1,), (1,), 2, 3))
        self.assertEqual(what_seen(table, 1, (4, 0), [1, 1]), (2, 2))

    def seen(self, table, part):
        return what_seen(table, 1, (4, 0), part)

    def linked(self, table, part):
        return link_names(table, (4, 0), part, 1, 2)

    def test_free_columns(self):
        table = Table.full(3, 2)
        self.assertEqual([openers(table, 1), needed(table, 1), opens(table, 1, (0,))], [(), (), False])
        self.assertTrue(plain_free(table, (0,), 1))
        self.assertEqual(plain_circuits(table), [])


if __name__ == "__main__":
    unittest.main()
