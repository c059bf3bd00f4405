"""Glues of rings: [115], [116] and the section toldorfree/ringglue.py."""

import random
import unittest
from itertools import permutations

from tests.asking import Asking
from tests.samples import (BENT, FIVE, FOUR, GROUPS, KLEIN, NO_INTEGERS, NO_LISTS, UNFAIR, bent, drawn, four_points,
                           line, ring, shuffled, square_of)
from tests.wholes import SUMS4, TURNS
from toldorfree.errors import BadGroup, BadNames, BadNumber, Loose, NotFair, OtherSigns, TooMany
from toldorfree.glue import glued
from toldorfree.groups import Group
from toldorfree.laid import ring_table
from toldorfree.reading import read_group
from toldorfree.ringglue import glue_gives_ring, glue_symmetries, ring_names
from toldorfree.rings import ring_order
from toldorfree.symmetries import count_symmetries
from toldorfree.tables import Table
from toldorfree.trees import tree_of


def plain_names(one, other):
    """The permutations x -> a * f[x] of [115], by trying all permutations for f."""
    size = range(one.size)
    kept = []
    for images in permutations(size):
        pairs = [(images[one.times(x, y)], images[x], images[y]) for x in size for y in size]
        if all(z == other.times(x, y) for z, x, y in pairs) or all(z == other.times(y, x) for z, x, y in pairs):
            kept.append(images)
    return tuple(sorted({tuple(other.times(a, image) for image in images) for images in kept for a in size}))


class NamesTest(Asking):
    def test_names(self):
        small = ("2", "3", "4", "klein", "5")
        for one in small:
            for other in small:
                one_group, other_group = GROUPS[one], GROUPS[other]
                if one_group.size == other_group.size:
                    found = ring_names(one_group, other_group)
                    self.is_tuples(found)
                    self.assertEqual(found, plain_names(one_group, other_group))
        for one in ("6", "turns"):
            self.assertEqual(ring_names(GROUPS[one], TURNS), plain_names(GROUPS[one], TURNS))

    def test_how_many(self):
        for group in list(GROUPS.values()) + [Group.sums(12), Group.sums(3) * Group.sums(3), TURNS * Group.sums(2)]:
            many = group.size * len(group.automorphisms())
            self.assertEqual(len(ring_names(group, group)), many if group.is_abelian() else 2 * many)
        self.assertEqual([len(ring_names(GROUPS[name], GROUPS[name])) for name in ("2", "3", "klein", "4", "5", "6", "turns")],
                         [2, 6, 24, 8, 20, 12, 72])
        self.assertEqual([ring_names(FOUR, KLEIN), ring_names(GROUPS["6"], TURNS)], [(), ()])
        self.assertEqual(len(ring_names(GROUPS["2"] * GROUPS["3"], GROUPS["6"])), 12)

    def test_gives_ring(self):
        for one, other in ((FOUR, FOUR), (KLEIN, KLEIN), (FOUR, KLEIN), (GROUPS["3"], GROUPS["3"])):
            wanted = set(plain_names(one, other))
            for names in permutations(range(one.size)):
                self.assertIs(glue_gives_ring(one, other, list(names)), names in wanted)
                self.assertIs(glue_gives_ring(one, other, names), names in wanted)

    def test_wrong(self):
        self.wrong(BadGroup, "place", 3, ring_names, FOUR, GROUPS["3"])
        self.wrong(BadGroup, "place", 4, ring_names, GROUPS["3"], FOUR)
        self.wrong(BadGroup, "place", 3, glue_gives_ring, FOUR, GROUPS["3"], (0, 1, 2, 3))
        for names in NO_LISTS + ((), (0, 1, 2), (0, 1, 2, 2), (0, 1, 2, 4), [0, 1, 2, 3, 4], (0, True, 2, 3),
                                 (0, 1, 2, "3"), (1.0, 0, 2, 3), [[0, 1, 2, 3]]):
            self.wrong(BadNames, "column", -1, glue_gives_ring, FOUR, GROUPS["3"], names)
            self.wrong(BadNames, "column", -1, glue_gives_ring, FOUR, KLEIN, names)

    def test_examples(self):
        four = Group.sums(4)
        self.assertEqual([len(ring_names(four, four)), ring_names(four, four)[1],
                          glue_gives_ring(four, four, [0, 2, 1, 3])], [8, (0, 3, 2, 1), False])
        self.assertEqual(glue_symmetries(square_of(Group.sums(2)), 2, square_of(Group.sums(2)), 2), 8)


class GluedRingsTest(Asking):
    def test_pieces_of_glues(self):
        for one, other in ((FOUR, FOUR), (KLEIN, FOUR), (FOUR, KLEIN), (KLEIN, KLEIN), (GROUPS["3"], GROUPS["3"])):
            first, second = ring_table(one, 3), ring_table(other, 3)
            for names in permutations(range(one.size)):
                self.check_glue(first, second, names, glue_gives_ring(one, other, names))

    def check_glue(self, one, other, names, gives):
        """The glue along the last columns has one piece, or two of the sorts of the tables."""
        table = glued(one, one.columns - 1, other, other.columns - 1, names=names)
        sorts = tree_of(table).sorts()
        if gives:
            self.assertIn(sorts, (("star",), ("ring",)))
        else:
            self.assertEqual(sorted(sorts), sorted(tree_of(one).sorts() + tree_of(other).sorts()))
        self.assertIs(ring_order(table) is not None, gives)

    def test_longer_rings(self):
        chance = random.Random(2)
        for one, other, columns, more in ((FOUR, FOUR, 4, 3), (KLEIN, KLEIN, 3, 4), (FOUR, KLEIN, 4, 3), (TURNS, TURNS, 3, 3),
                                          (TURNS, GROUPS["6"], 3, 3), (GROUPS["5"], GROUPS["5"], 3, 3)):
            first, second = ring_table(one, columns), ring_table(other, more)
            giving = ring_names(one, other)
            for names in chance.sample(giving, min(3, len(giving))) + [tuple(drawn(one.size, seed)) for seed in range(3)]:
                self.check_glue(first, second, names, names in giving)

    def test_any_rings_and_base_rows(self):
        first, second = shuffled(ring(FOUR, 3), 1), shuffled(ring(FOUR, 3), 2)
        for base in (0, 5, 15):
            giving = ring_names(read_group(first, base=base), read_group(second, base=15 - base))
            for names in list(permutations(range(4)))[::3]:
                self.check_glue(first, second, names, names in giving)

    def test_tables_with_no_ring_order(self):
        for one, other in ((FIVE, FIVE), (FIVE, square_of(GROUPS["5"])), (BENT, SUMS4), (square_of(KLEIN), BENT)):
            for seed in range(3):
                chance = random.Random(seed)
                column, second = chance.randrange(one.columns), chance.randrange(other.columns)
                self.assertGreater(len(tree_of(glued(one, column, other, second, names=drawn(one.signs, seed)))), 1)


class SymmetriesTest(Asking):
    def test_symmetries_of_glues(self):
        fours = (SUMS4, shuffled(square_of(KLEIN), 1), BENT, Table.parity(4, 2).with_copy(0), bent(4, [(0, 1)]))
        fives = (FIVE, shuffled(square_of(GROUPS["5"]), 2), line(5, 4))
        twos = (Table.parity(2, 3), four_points(GROUPS["2"]), Table.parity(2, 2) + Table(2, [(1, 0)]),
                Table.parity(2, 3) + Table.parity(2, 2), Table(2, [(0, 1), (1, 0)]))
        seen = set()
        for tables in (fours, fives, twos):
            for one in tables:
                for seed, other in enumerate(tables):
                    if len(one) * len(other) // one.signs <= 256 and one.columns + other.columns <= 10:
                        names = drawn(one.signs, seed)
                        table = glued(one, 1, other, 0, names=names)
                        found = glue_symmetries(one, 1, other, 0, names=names)
                        self.assertEqual(found, count_symmetries(table))
                        self.assertEqual(glue_symmetries(one, 0, other, 1), count_symmetries(glued(one, 0, other, 1)))
                        self.assertEqual(glue_symmetries(one, 0, other, 1, names=None), glue_symmetries(one, 0, other, 1))
                        seen.add(found)
        self.assertGreater(len(seen), 8)

    def test_names_matter(self):
        found = {glue_symmetries(SUMS4, 2, SUMS4, 0, names=names) for names in permutations(range(4))}
        self.assertEqual(len(found), 2)
        found = [glue_symmetries(FIVE, 0, FIVE, 2, names=names) for names in list(permutations(range(5)))[::9]]
        self.assertEqual(found, [count_symmetries(glued(FIVE, 0, FIVE, 2, names=names))
                                 for names in list(permutations(range(5)))[::9]])

    def test_errors_of_the_glue(self):
        bad, good, other = UNFAIR[3], Table.parity(2, 3), Table.parity(3, 3)
        for column in NO_INTEGERS + (-1, 3):
            self.wrong(BadNumber, "name", "column", glue_symmetries, bad, column, good, 9, names=7)
            self.wrong(BadNumber, "name", "second", glue_symmetries, bad, 0, good, column, names=7)
        self.wrong(BadNames, "column", -1, glue_symmetries, bad, 0, other, 0, names=(0, 0))
        self.wrong(OtherSigns, "signs", 3, glue_symmetries, bad, 0, other, 0, names=[1, 0])
        self.wrong(NotFair, "lot", (0, 2), glue_symmetries, bad, 0, Table.full(2, 2), 0)
        self.wrong(Loose, "column", 1, glue_symmetries, Table.full(2, 2), 1, good, 0)
        six = Table.parity(2, 6)
        self.wrong(BadNumber, "name", "columns", glue_symmetries, six, 0, Table.parity(2, 5), 0)
        self.wrong(TooMany, "limit", 1300, glue_symmetries, Table.parity(16, 3), 0, Table.parity(16, 3), 0)

    def test_too_many_symmetries(self):
        many, few = Table.parity(5, 2) + Table.parity(5, 2), Table(5, [(k, k) for k in range(5)])
        self.assertEqual(count_symmetries(many), 14400)
        self.wrong(TooMany, "limit", 2000, glue_symmetries, many, 0, few, 0)
        self.wrong(TooMany, "limit", 2000, glue_symmetries, few, 0, many, 3)
        self.assertEqual(glue_symmetries(few, 0, few, 1), 120)


if __name__ == "__main__":
    unittest.main()
