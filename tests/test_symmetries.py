"""Symmetries: [112], [117] and the section toldorfree/symmetries.py."""

import unittest
from itertools import permutations, product
from math import factorial

from tests.asking import Asking
from tests.samples import (BENT, FAIR, FIVE, FIVES, FOUR, GROUPS, KLEIN, SORTS, UNFAIR, bent, drawn, four_points,
                           glue_plainly, ring, shuffled, square, square_of)
from tests.wholes import MORE, SUMS4, TURNS
from toldorfree.cuts import class_column
from toldorfree.errors import NoRow, NotFair, TooMany
from toldorfree.fairness import told_by
from toldorfree.laid import ring_table
from toldorfree.matching import keeps
from toldorfree.naming import Renaming
from toldorfree.ranks import hanging_parts
from toldorfree.symmetries import count_symmetries, leads, symmetries_of
from toldorfree.tables import Table
from toldorfree.trees import tree_of

# few signs and columns, so that all renamings can be tried
TINY = [table for table in FAIR + SORTS if factorial(table.signs) ** table.columns <= 14000] + [
    shuffled(Table.parity(3, 3), 1), Table(3, [(k, 1, k, 2 - k) for k in range(3)]), shuffled(SUMS4, 2),
    Table.parity(2, 3) + Table(2, [(1,)]) + Table.parity(2, 2), Table(4, [(2, k, 3 - k) for k in range(4)]),
    Table(4, [(3,)]), bent(3, [(0, 1)]), Table.full(3, 2).with_copy(1)]
NO_ROWS = ((), (0,), "000", 5, True, (0, 0, 0, 0, 0, 0, 0, 0, 0), {0: 0}, [[0]], (0.0, 0), (None,) * 3)


def plain_symmetries(table):
    """All symmetries by their names, ascending, by trying all renamings."""
    rows = set(table.rows)
    fixed = told_by(table, ())
    same = [tuple(range(table.signs))]
    choices = [same if column in fixed else list(permutations(range(table.signs))) for column in range(table.columns)]
    return [names for names in product(*choices)
            if all(tuple(entry[sign] for entry, sign in zip(names, row)) in rows for row in table)]


def turned(names, row):
    return tuple(entry[sign] for entry, sign in zip(names, row))


class PlainTest(Asking):
    def test_all(self):
        many = set()
        for table in TINY:
            wanted = plain_symmetries(table)
            self.assertEqual(count_symmetries(table), len(wanted))
            self.assertEqual(count_symmetries(table, row=None), len(wanted))
            if len(wanted) <= 2000:
                found = symmetries_of(table)
                self.assertIsInstance(found, tuple)
                self.assertEqual([symmetry.names for symmetry in found], wanted)
                self.assertEqual(symmetries_of(table, row=None), found)
                self.assertTrue(all(isinstance(symmetry, Renaming) for symmetry in found))
            many.add(len(wanted))
        self.assertGreater(len(many), 10)

    def test_those_that_keep_a_row(self):
        for table in TINY:
            wanted = plain_symmetries(table)
            for row in {table[0], table.rows[-1], table[table.many // 3]}:
                kept = [names for names in wanted if turned(names, row) == row]
                self.assertEqual(count_symmetries(table, row=list(row)), len(kept))
                self.assertEqual([symmetry.names for symmetry in symmetries_of(table, row=row)], kept)

    def test_those_that_lead_rows(self):
        nothing = 0
        for table in TINY:
            wanted = plain_symmetries(table)
            for first in table.rows[:3]:
                for last in table.rows[-3:] + table.rows[1:2]:
                    least = [names for names in wanted if turned(names, first) == last][:1]
                    found = leads(table, first, list(last))
                    self.assertEqual([] if found is None else [found.names], least)
                    nothing += not least
        # all of these tables look alike from each row
        self.assertEqual(nothing, 0)


class CountsTest(Asking):
    def test_large_numbers(self):
        for table, wanted in ((Table.full(36, 1), factorial(36)), (Table.full(6, 4), factorial(6) ** 4),
                              (Table(36, [(k,) * 8 for k in range(36)]), factorial(36)),
                              (Table.full(35, 2), factorial(35) ** 2), (Table(36, [(35,)]), 1),
                              (square(32, lambda x, y: x ^ y), 32 * 32 * 31 * 30 * 28 * 24 * 16),
                              (Table.parity(36, 3), 36 * 36 * 12), (Table.parity(2, 8), 2 ** 7)):
            self.assertEqual(count_symmetries(table), wanted)
            if wanted > 2000:
                self.wrong(TooMany, "limit", 2000, symmetries_of, table)
            self.assertEqual(count_symmetries(table, row=table[0]) * table.many, wanted)
        self.assertEqual(len(symmetries_of(Table.full(6, 1))), 720)

    def test_limit(self):
        just = square_of(FIVES)
        self.assertEqual([count_symmetries(just), len(symmetries_of(just))], [2000, 2000])
        self.assertEqual(len(symmetries_of(Table.parity(15, 3))), 1800)
        for table, many in ((Table.parity(16, 3), 2048), (Table.parity(10, 4), 4000), (ring(GROUPS["5"], 5), 2500),
                            (Table.parity(5, 3) + Table.parity(5, 2), 12000)):
            self.assertEqual(count_symmetries(table), many)
            self.wrong(TooMany, "limit", 2000, symmetries_of, table)
        # the limit is that of those that keep the row
        self.assertEqual(len(symmetries_of(Table.parity(16, 3), row=(1, 1, 14))), 8)
        self.wrong(TooMany, "limit", 2000, symmetries_of, Table.full(8, 1), row=(3,))
        self.assertEqual(len(symmetries_of(Table.full(7, 1), row=[3])), 720)

    def test_hanging_parts(self):
        for table in FAIR + SORTS:
            if table.signs <= 7 and table.many <= 256:
                found = 1
                for lot in hanging_parts(table):
                    found *= count_symmetries(table.part_table(lot))
                self.assertEqual(count_symmetries(table), found)

    def test_moved_and_renamed(self):
        for seed, table in enumerate(FAIR + SORTS):
            if table.many <= 128:
                self.assertEqual(count_symmetries(shuffled(table, seed)), count_symmetries(table))
                way = tuple(range(1, table.columns)) + (0,)
                self.assertEqual(count_symmetries(table.moved(way)), count_symmetries(table))

    def test_rings(self):
        for group in GROUPS.values():
            for columns in (3, 4):
                for table in (ring_table(group, columns), shuffled(ring_table(group, columns), columns)):
                    many = len(group.automorphisms())
                    wanted = group.size ** (columns - 1) * many
                    self.assertEqual(count_symmetries(table), wanted)
                    self.assertEqual(count_symmetries(table, row=table[1]), many)
                    if wanted <= 2000:
                        self.check_ring(table, symmetries_of(table), many)

    def check_ring(self, table, found, many):
        """Each row is led to each row by as many symmetries, and each permutation is done as often."""
        signs, columns = table.signs, table.columns
        for row in (table[0], table[table.many - 1]):
            ends = [symmetry(row) for symmetry in found]
            self.assertEqual({ends.count(end) for end in table.rows[:40]}, {many})
        for column in range(columns):
            done = [symmetry[column] for symmetry in found]
            self.assertEqual(len(set(done)), signs * many)
            self.assertEqual({done.count(entry) for entry in set(done)}, {signs ** (columns - 2)})

    def test_they_are_symmetries(self):
        for table in (BENT, bent(4, [(0, 1)]), FIVE, ring(TURNS, 4), shuffled(four_points(GROUPS["3"]), 1), MORE[2],
                      Table.parity(3, 3) + Table(3, [(1,)]), bent(5, [(0, 1, 2), (1, 2, 3)])):
            found = symmetries_of(table)
            self.assertEqual(len(found), count_symmetries(table))
            self.assertEqual(sorted({symmetry.names for symmetry in found}), [symmetry.names for symmetry in found])
            for symmetry in found[::max(1, len(found) // 40)]:
                self.assertTrue(keeps(table, symmetry))
            for column in told_by(table, ()):
                self.assertEqual({symmetry[column] for symmetry in found}, {tuple(range(table.signs))})

    def test_orbits(self):
        """Each symmetry leads a row on; leads finds the least of those that lead it to just this row."""
        for table in (FIVE, BENT, glue_plainly(FIVE, 2, FIVE, 0, drawn(5, 1)), bent(4, [(0, 1, 2), (1,)]), MORE[3]):
            found = symmetries_of(table)
            for first in (table[0], table[7]):
                least = {}
                for symmetry in found:
                    least.setdefault(symmetry(first), symmetry.names)
                for last in table:
                    wanted = least.get(last)
                    led = leads(table, first, last)
                    self.assertEqual(wanted, None if led is None else led.names)
                self.assertEqual(count_symmetries(table, row=first) * len(least), len(found))
        self.assertIsNone(leads(FIVE, FIVE[0], FIVE[1]))


class TreeTest(Asking):
    def test_symmetries_of_pieces(self):
        for table in (glue_plainly(SUMS4, 2, SUMS4, 0, (0, 2, 1, 3)), SUMS4.with_copy(1), bent(4, [(0, 1)]),
                      glue_plainly(Table.parity(3, 3), 1, Table.parity(3, 2).with_copy(0), 0, (1, 2, 0)),
                      glue_plainly(square_of(KLEIN), 1, square_of(FOUR), 2, drawn(4, 3)).with_copy(3)):
            tree = tree_of(table)
            own = [symmetries_of(piece.table) for piece in tree]
            fitting = 0
            for choice in product(*own):
                fitting += all(self.at(tree, choice, edge, 0) == self.at(tree, choice, edge, 1) for edge in tree.edges)
            self.assertEqual(count_symmetries(table), fitting)

    def at(self, tree, choice, edge, end):
        """What the symmetry of one end of the edge does at its column for it."""
        number = tree.ends(edge)[end]
        rest = tuple(column for column in range(tree.table.columns) if column not in edge)
        return [choice[number][column] for column, lot in enumerate(tree[number].lots) if lot in (edge, rest)][0]

    def test_classes_are_led_to_classes(self):
        for table in (ring(FOUR, 4), bent(4, [(0, 1)]), MORE[0]):
            numbers = class_column(table, (0, 1))
            for symmetry in symmetries_of(table):
                led = [numbers[table.number_of(symmetry(row))] for row in table]
                self.assertEqual(len(set(zip(numbers, led))), table.signs)


class WrongTest(Asking):
    def test_rows_come_before_fairness(self):
        bad = UNFAIR[0]
        for row in NO_ROWS:
            for call in (symmetries_of, count_symmetries):
                self.wrong(NoRow, "row", row, call, bad, row=row)
            self.wrong(NoRow, "row", row, leads, bad, row, "x")
            self.wrong(NoRow, "row", row, leads, bad, (0, 1), row)
        self.wrong(NoRow, "row", (1, 1), leads, bad, (1, 1), None)
        self.wrong(NoRow, "row", [1, 1], leads, bad, [0, 0], [1, 1])
        self.wrong(NoRow, "row", None, leads, bad, None, (0, 0))
        for call in (symmetries_of, count_symmetries):
            self.wrong(NotFair, "lot", (0, 1), call, bad)
            self.wrong(NotFair, "lot", (0, 1), call, bad, row=[0, 1])
            self.wrong(NoRow, "row", (1, 1), call, bad, row=(1, 1))
            self.wrong(NoRow, "row", [False, True], call, bad, row=[False, True])
            for table in UNFAIR:
                with self.assertRaises(NotFair):
                    call(table)
        self.wrong(NotFair, "lot", (0, 1), leads, bad, (0, 0), [1, 0])

    def test_examples(self):
        table = ring_table(GROUPS["3"], 3)
        found = symmetries_of(table, row=(0, 0, 0))
        self.assertEqual([count_symmetries(table), len(found), found[1].names],
                         [18, 2, ((0, 2, 1), (0, 2, 1), (0, 2, 1))])
        self.assertEqual(leads(table, (0, 0, 0), [0, 1, 2]).names, ((0, 1, 2), (1, 2, 0), (2, 0, 1)))
        self.assertEqual(len(symmetries_of(ring(FOUR, 4))), 128)


if __name__ == "__main__":
    unittest.main()
