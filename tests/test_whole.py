"""The program as a whole: what points of several stages say together, on small tables of all sorts."""

import random
import unittest

from tests.asking import Asking
from tests.samples import (BENT, FIVE, FOUR, GROUPS, KLEIN, UNFAIR, bent, drawn, drawn_square, four_points, glue_plainly,
                           line, parts, plain_circuits, plain_fair, plain_rank, ring, shuffled, square_of)
from tests.wholes import TURNS, rest
from toldorfree.breaks import fair_up_to, find_break, is_break, needed_for, seen_by_all
from toldorfree.circuits import bases_of, circuits_of, equal_columns, fixed_columns, least_base
from toldorfree.classes import class_count, class_shares, classes
from toldorfree.coarse import block_of, coarse_blocks, coarse_table, is_coarse
from toldorfree.cuts import class_column, cuts_of, is_split, splits_of, strong_splits
from toldorfree.desks import Desk
from toldorfree.duals import dual_spectrum, turned
from toldorfree.errors import NotFair
from toldorfree.evenly import free_within, seen_evenly
from toldorfree.fairness import is_fair
from toldorfree.farness import farthest_closed, least_difference, pairs_at
from toldorfree.foursomes import foursomes, most_foursomes
from toldorfree.fourpoints import four_point_group, is_four_points, rounds_of_edges, triangles
from toldorfree.gaps import least_gap, near_one, rows_apart
from toldorfree.glue import glued, unglued
from toldorfree.goings import goings
from toldorfree.holding import short_part, stacked_parts
from toldorfree.inner import inner_tables, is_inner, relabelled
from toldorfree.inside import inner_count
from toldorfree.listings import listing
from toldorfree.losses import least_changes, mends, nearest, refilled, ways_left, wrong_found
from toldorfree.matching import equal_up_to_names, keeps, renaming_between
from toldorfree.meeting import full_classes, meets, open_round
from toldorfree.naming import Renaming, renamed
from toldorfree.opposite import halves_alike, opposite_meet, seventh
from toldorfree.pairing import is_paired, unpaired
from toldorfree.partings import least_lots, put_in
from toldorfree.planes import is_plane, is_short_plane, line_table, plane_table, short_plane_table
from toldorfree.putting import goes_in, greatest_silent, meeting_column, why_not
from toldorfree.ranks import Ranks, closed_lots, hanging_parts, hangs_together
from toldorfree.reading import read_group, read_product
from toldorfree.rebuilding import rebuilt
from toldorfree.rings import is_ring, ring_group, ring_order
from toldorfree.secrets import needed, openers, opens
from toldorfree.spectra import rank_spectrum, spectrum
from toldorfree.squares import closes, turns_alike, ways
from toldorfree.stacks import stack, stackable
from toldorfree.symmetries import count_symmetries, leads, symmetries_of
from toldorfree.tables import Table
from toldorfree.texts import table_from, table_text
from toldorfree.together import least_many, tuples_just
from toldorfree.transversals import transversals
from toldorfree.trees import rebuilt_from, tree_of

FOURS = square_of(FOUR)
SORTS = (
    Table.parity(2, 3), Table.parity(2, 5), Table.parity(3, 3), Table.parity(3, 4), FOURS, square_of(KLEIN), FIVE,
    square_of(TURNS), drawn_square(6, 4), glue_plainly(FOURS, 2, FOURS, 0, (0, 2, 1, 3)),
    glue_plainly(FOURS, 1, square_of(KLEIN), 2, drawn(4, 6)), glue_plainly(FIVE, 0, FIVE, 2, drawn(5, 6)),
    glue_plainly(FOURS, 2, BENT, 1, drawn(4, 8)), ring(FOUR, 4), ring(KLEIN, 4), ring(TURNS, 4), BENT, bent(4, [(0, 1)]),
    four_points(GROUPS["2"]), four_points(GROUPS["3"]), four_points(KLEIN), plane_table(GROUPS["2"]),
    short_plane_table(GROUPS["3"]), line(5, 4), line_table(4), Table.full(3, 2), Table.parity(3, 2), Table(3, [(1, 0, 2)]),
    Table.parity(2, 3).with_copy(1) + Table(2, [(1,)]), FOURS.with_copy(0), Table.parity(2, 3) + Table.parity(2, 2),
    BENT.with_copy(2), Table.parity(2, 3) * Table.parity(3, 3), Table.full(2, 1) + Table(2, [(0, 1)]),
)
ALL = SORTS + tuple(shuffled(table, seed).moved(random.Random(seed).sample(range(table.columns), table.columns))
                    for seed, table in enumerate(SORTS))
# changed at one row, and others that are not fair
BROKEN = UNFAIR + tuple(Table(table.signs, table.rows[1:]) for table in SORTS[1:20:3])


def some_lots(table, seed, many=6):
    chance = random.Random(seed)
    return [tuple(sorted(chance.sample(range(table.columns), chance.randrange(table.columns + 1)))) for _ in range(many)]


class FairTest(Asking):
    def test_three_ways_to_be_fair(self):
        for table in ALL + BROKEN:
            fair = is_fair(table)
            if table.many <= 100:
                self.assertIs(fair, plain_fair(table))
            found = find_break(table)
            self.assertIs(found is None, fair)
            self.assertIs(is_break(table, found), not fair)
            rank = [rank for rank in range(table.columns + 1) if table.signs ** rank <= table.many][-1]
            self.assertIs(fair_up_to(table, rank) and table.signs ** rank == table.many, fair)
            whole = fair and hangs_together(table)
            if table.columns >= 2:
                for column in range(table.columns):
                    others = tuple(other for other in range(table.columns) if other != column)
                    self.assertIs(seen_by_all(table, column) and needed_for(table, column) == others, whole)
            self.assertEqual(table_from(table_text(table)), table)

    def test_ranks_and_rows(self):
        for seed, table in enumerate(ALL):
            ranks = Ranks(table)
            for lot in some_lots(table, seed):
                self.assertEqual(len(parts(table, lot)), table.signs ** ranks.rank(lot))
                part = tuple(table[0][column] for column in lot)
                self.assertEqual(len(table.rows_with(lot, part)), table.signs ** (ranks.total - ranks.rank(lot)))
                self.assertEqual(ways_left(table, rest(table, lot)), table.signs ** (ranks.total - ranks.rank(lot)))
                if len(lot) < table.columns:
                    short = short_part(table, lot, part)
                    self.assertEqual(Ranks(short).total, ranks.total - ranks.rank(lot))
            bases = bases_of(table)
            self.assertEqual(least_base(table), min(bases))
            self.assertEqual(rebuilt(table, bases[-1]), table)
            self.assertIs(mends(table, rest(table, bases[0])), True)
            self.assertEqual(refilled(table, table[0]), (0,))

    def test_counts(self):
        for table in ALL:
            ranks = Ranks(table)
            found = rank_spectrum(table.signs, ranks)
            self.assertEqual(spectrum(table, table[table.many // 2]), found)
            self.assertEqual(turned(table.signs, found), dual_spectrum(table.signs, ranks))
            self.assertEqual(turned(table.signs, dual_spectrum(table.signs, ranks)), found)
            if table.many > 1:
                least = least_difference(table)
                self.assertEqual(least, [k for k, many in enumerate(found) if many and k][0])
                self.assertEqual(table.columns - least, len(farthest_closed(table)))
                self.assertEqual(pairs_at(table, least), table.many * found[least] // 2)
                self.assertEqual(wrong_found(table), least - 1)
                self.assertEqual(nearest(table, table[1]), (0, (1,)))
            fixed = fixed_columns(table)
            many = least_many(table.signs, ranks)
            self.assertEqual(many == 0, table.many == 1)
            if table.many ** many <= 20000:
                self.assertGreater(tuples_just(table, table[0], fixed, many), 0)
            self.assertEqual(near_one(table.rows[1:], [table]), 0 if least_gap(table) > 1 else None)


class SmallerTest(Asking):
    def test_stacks(self):
        for table in ALL:
            if table.columns >= 2 and 0 not in fixed_columns(table):
                found = stacked_parts(table, 0)
                self.assertEqual(stack(*found), table)
                self.assertIs(stackable(found), True)

    def test_pairs(self):
        two, three = Table.parity(2, 3), square_of(GROUPS["3"])
        for one, other in ((two, three), (three, two), (Table.parity(2, 4), ring(GROUPS["3"], 4)), (FOURS, two),
                           (four_points(GROUPS["2"]), four_points(GROUPS["3"])), (bent(4, [(0, 1)]), ring(GROUPS["2"], 4))):
            table = one * other
            self.assertIs(is_fair(table), Ranks(one) == Ranks(other))
            self.assertEqual(unpaired(table, other.signs), (one, other))
            self.assertIs(is_paired(table, other.signs), True)
            for lot in some_lots(table, 1):
                self.assertEqual(class_count(table, lot, rest(table, lot)),
                                 class_count(one, lot, rest(one, lot)) * class_count(other, lot, rest(other, lot)))
            self.assertEqual(spectrum(table, table[0]), rank_spectrum(table.signs, Ranks(one)))

    def test_inner_and_coarse_tables(self):
        asked = 0
        for table in ALL:
            if table.signs in (4, 6) and table.many <= 64:
                ranks = Ranks(table)
                for chosen in list(inner_tables(table, 2))[:6]:
                    small = relabelled(table, chosen)
                    self.assertTrue(is_inner(table, chosen) and is_fair(small))
                    self.assertEqual(Ranks(small), ranks)
                    for lot in some_lots(table, 2, 3):
                        if meets(table, lot, rest(table, lot)):
                            self.assertIs(meets(small, lot, rest(table, lot)), True)
                    asked += 1
                for blocks in coarse_blocks(table, 2):
                    rough = coarse_table(table, blocks)
                    self.assertTrue(is_coarse(table, blocks) and is_fair(rough))
                    self.assertEqual(Ranks(rough), ranks)
                    self.assertIs(is_inner(table, block_of(table, blocks, table[1])), True)
                    asked += 1
        self.assertGreater(asked, 40)


class MeetingTest(Asking):
    def test_ways_to_meet(self):
        answers = set()
        for seed, table in enumerate(ALL):
            ranks = Ranks(table)
            for lot in some_lots(table, seed, 4):
                for other in (rest(table, lot), some_lots(table, seed + 1, 1)[0]):
                    number = ranks.meet_number(lot, other)
                    meet = meets(table, lot, other)
                    self.assertIs(class_count(table, lot, other) == table.signs ** number, meet)
                    self.assertIs(open_round(table, lot, other) is None, meet)
                    self.assertIs(full_classes(table, other, lot), meet)
                    self.assertEqual(set(class_shares(table, lot, other)) == {1}, meet)
                    if table.many <= 81:
                        most = most_foursomes(table.signs, ranks, lot, other)
                        self.assertIs(foursomes(table, lot, other) == most, meet)
                    within = free_within(table, lot, other)
                    self.assertIs(seen_evenly(table, lot, other, within), True)
                    if ranks.is_modular(lot, other):
                        self.assertTrue(meet)
                    column = meeting_column(table, lot, other)
                    if column is not None:
                        self.assertTrue(meet and number == 1 and goes_in(table, column))
                        self.assertEqual(column, classes(table, lot, other))
                    answers.add(meet)
        self.assertEqual(answers, {True, False})

    def test_partings(self):
        for table in ALL:
            if table.many <= 27:
                found = goings(table)
                for parting in found:
                    larger = put_in(table, parting) if table.columns < 8 else None
                    self.assertTrue(goes_in(table, parting) and (larger is None or is_fair(larger)))
                    self.assertIsNone(why_not(table, parting))
                    lots = least_lots(table, parting)
                    self.assertTrue(larger is None or set(parting) == {0}
                                    or set(openers(larger, table.columns)) == set(lots))
                if table.many > 1 and table.columns < 8:
                    odd = (1,) + (0,) * (table.many - 1)
                    self.assertIs(why_not(table, odd) is None, is_fair(put_in(table, odd)))
                    self.assertTrue(greatest_silent(table, odd))
                if Ranks(table).total == 2:
                    self.assertEqual(bool(transversals(table)) or not any(
                        len(least_lots(table, parting)[0]) > 1 for parting in found), True)


class CutTest(Asking):
    def test_cuts_glues_and_trees(self):
        for table in ALL:
            if hangs_together(table):
                tree = tree_of(table)
                self.assertEqual(tree.splits(), splits_of(table))
                self.assertEqual(tree.edges, strong_splits(table))
                self.assertEqual(rebuilt_from(tree, order=range_back(len(tree))), table)
                for lot in cuts_of(table)[::3]:
                    side = rest(table, lot)
                    split = is_split(table, lot)
                    self.assertIs(split, meeting_column(table, lot, side) is not None)
                    if split:
                        one, other = unglued(table, lot)
                        self.assertEqual(glued(one, len(lot), other, len(side)), table.moved(lot + side))
                        self.assertEqual(meeting_column(table, lot, side), class_column(table, lot))
            self.assertEqual(listing(Desk(table)).splitlines()[3] == "pieces: -", not hangs_together(table))

    def test_rings_and_four_points(self):
        for table in ALL:
            whole = tuple(range(table.columns))
            if table.columns >= 3 and circuits_of(table) == (whole,):
                order = ring_order(table)
                if order is not None:
                    moved = table.moved(order)
                    group = ring_group(table)
                    self.assertIs(is_ring(moved), True)
                    self.assertEqual(group, read_group(moved))
                    self.assertEqual(group.products, read_product(moved))
                    self.assertEqual(count_symmetries(table), table.many * len(group.automorphisms()))
                    self.assertEqual(count_symmetries(table, row=table[1]), len(group.automorphisms()))
                    if table.many <= 64 and table.signs <= 4:
                        for size in range(2, table.signs + 1):
                            self.assertEqual(len(list(inner_tables(table, size))), inner_count(group, table.columns, size))
                if table.columns == 3:
                    self.assertIs(closes(table), order is not None)
                    self.assertEqual(len(ways(table)), table.signs)
                    self.assertIs(turns_alike(table), order is not None and ring_group(table).is_abelian())
            if is_four_points(table):
                group = four_point_group(table)
                self.assertEqual([tree_of(table).sorts(), len(triangles(table)), len(rounds_of_edges(table))],
                                 [("firm",), 4, 3])
                self.assertEqual(count_symmetries(table), table.many * len(group.automorphisms()))
                self.assertIs(opposite_meet(table, 0, 1), group.is_abelian())
                found = seventh(table, 0, 1)
                if found is not None:
                    self.assertIs(is_plane(found), group.has_exponent_two() and halves_alike(table))
                    self.assertIs(is_short_plane(found), not group.has_exponent_two())


def range_back(many):
    return list(range(many))[::-1]


class NamesTest(Asking):
    def test_renamed_tables(self):
        for seed, table in enumerate(SORTS):
            other = shuffled(table, seed + 50)
            self.assertEqual(Ranks(table), Ranks(other))
            for call in (circuits_of, equal_columns, fixed_columns, hanging_parts, least_gap):
                self.assertEqual(call(table), call(other))
            self.assertEqual(list(closed_lots(table)), list(closed_lots(other)))
            self.assertEqual(count_symmetries(table), count_symmetries(other))
            if table.many <= 125:
                found = renaming_between(table, other)
                self.assertEqual(renamed(table, found), other)
                self.assertTrue(equal_up_to_names(other, table) and keeps(table, Renaming.same(table.signs, table.columns)))
                for lot in some_lots(table, seed, 3):
                    self.assertEqual(class_count(table, lot, rest(table, lot)), class_count(other, lot, rest(table, lot)))
            if hangs_together(table):
                self.assertEqual([tree_of(table).sorts(), splits_of(table)], [tree_of(other).sorts(), splits_of(other)])

    def test_symmetries_keep_the_table(self):
        for table in SORTS:
            if count_symmetries(table) <= 300:
                for symmetry in symmetries_of(table)[::7]:
                    self.assertTrue(keeps(table, symmetry))
                    led = leads(table, table[0], symmetry(table[0]))
                    self.assertEqual(led(table[0]), symmetry(table[0]))
                    self.assertLessEqual(led.names, symmetry.names)

    def test_dealt_columns(self):
        for table in ALL:
            for column in range(table.columns):
                if column not in fixed_columns(table):
                    whole = [lot for lot in hanging_parts(table) if column in lot][0]
                    self.assertEqual(needed(table, column), tuple(other for other in whole if other != column))
                    for lot in openers(table, column):
                        self.assertIs(opens(table, column, lot), True)
                        self.assertIn(tuple(sorted(lot + (column,))), circuits_of(table))
                    self.assertGreaterEqual(least_changes(table, column) + 1, least_difference(table))

    def test_equal_kinds_of_tables(self):
        self.assertEqual(rows_apart(line_table(3), line(3, 4)), 0)
        self.assertEqual(plane_table(GROUPS["2"]) - (6,), four_points(GROUPS["2"]))
        self.assertEqual(line_table(2), Table.parity(2, 3))
        self.assertTrue(equal_up_to_names(ring(KLEIN, 4), bent(4, [])))
        self.assertEqual(plain_rank(line_table(7), range(8)), 2)


class UnfairTest(Asking):
    """A table that is not fair is named by its first circuit that is no Latin cube, whatever is asked of it."""

    CALLS = (Ranks, hanging_parts, hangs_together, circuits_of, bases_of, least_base, fixed_columns, equal_columns, least_gap,
             least_difference, farthest_closed, cuts_of, splits_of, strong_splits, tree_of, read_product, read_group,
             is_ring, ring_order, ring_group, symmetries_of, count_symmetries, ways, closes, turns_alike, goings,
             transversals, four_point_group, triangles, rounds_of_edges, halves_alike, wrong_found, Desk,
             lambda table: list(closed_lots(table)), lambda table: spectrum(table, table[0]),
             lambda table: classes(table, (), ()), lambda table: meets(table, (), ()), lambda table: is_split(table, ()),
             lambda table: unglued(table, ()), lambda table: openers(table, 0), lambda table: opens(table, 0, ()),
             lambda table: mends(table, ()), lambda table: goes_in(table, (0,) * len(table)),
             lambda table: renaming_between(table, table), lambda table: leads(table, table[0], table[0]),
             lambda table: glued(table, 0, table, 0), lambda table: opposite_meet(table, 0, 1),
             lambda table: least_changes(table, 0), lambda table: nearest(table, table[0]))

    def test_not_fair(self):
        for table in BROKEN:
            if table.columns >= 2:
                wanted = [lot for lot in plain_circuits(table) if not self.latin(table, lot)][0]
                for call in self.CALLS:
                    self.wrong(NotFair, "lot", wanted, call, table)

    def latin(self, table, lot):
        return len(parts(table, lot)) == table.signs ** (len(lot) - 1)


if __name__ == "__main__":
    unittest.main()
