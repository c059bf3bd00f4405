"""[1] for every call: results are tuples, arguments stay, and equal arguments give equal results."""

import copy
import unittest

from tests.asking import Asking
from tests.samples import BENT, FAIR, FOUR, KLEIN, UNFAIR
from toldorfree.breaks import (Break, fair_up_to, find_break, is_break, least_tellers, needed_for, seen_by_all,
                               table_circuits)
from toldorfree.circuits import (bases_of, circuit_in, circuits_of, connecting_circuit, equal_columns, fixed_columns,
                                 least_base)
from toldorfree.classes import class_count, class_shares, classes
from toldorfree.coarse import block_of, coarse_blocks, coarse_table, is_coarse
from toldorfree.crossing import crossing_group, crossing_kind, quarter_table, quarters, third
from toldorfree.cuts import class_column, crosses, cuts_of, is_split, splits_of, strong_splits
from toldorfree.desks import Desk
from toldorfree.duals import dual_count, dual_spectrum, turned
from toldorfree.evenly import free_within, seen_evenly
from toldorfree.fairness import is_fair, is_full, is_latin, leaves_free, power_of, sees, told_by, tells
from toldorfree.farness import farthest_closed, least_difference, pairs_at
from toldorfree.foursomes import foursomes, most_foursomes
from toldorfree.fourpoints import (fits_in, four_point_group, four_point_table, is_four_points, rounds_of_edges,
                                   triangles)
from toldorfree.gaps import gap_bound, least_gap, near_one, rows_apart
from toldorfree.glue import glued, unglued
from toldorfree.goings import goings, goings_with, put_all
from toldorfree.groups import Group
from toldorfree.holding import held, short_part, stacked_parts
from toldorfree.inner import chosen_rows, inner_through, inner_tables, is_inner, relabelled
from toldorfree.inside import coarse_count, inner_count, normal_blocks, subgroup_signs
from toldorfree.laid import bent_table, is_laid, laid_table, ring_table, square_of
from toldorfree.listings import line_of, listing
from toldorfree.losses import (changed, least_changes, mends, nearest, refilled, ways_left, wrong_found, wrong_mended)
from toldorfree.lots import common, lot_of, lots_of, minus, plus, rest_of
from toldorfree.matching import equal_up_to_names, keeps, renaming_between
from toldorfree.meeting import closing_row, full_classes, meets, open_round
from toldorfree.naming import Renaming, renamed
from toldorfree.opposite import halves_alike, opposite_column, opposite_meet, seventh
from toldorfree.pairing import is_paired, unpaired
from toldorfree.partings import column_parting, least_lots, numbered, put_in, tells_parting
from toldorfree.pieces import Piece
from toldorfree.planes import is_plane, is_short_plane, line_table, plane_table, short_plane_table
from toldorfree.putting import class_parting, goes_in, greatest_silent, meeting_column, why_not
from toldorfree.ranks import Ranks, closed_lots, hanging_parts, hangs_together
from toldorfree.reading import elements_of, read_group, read_product
from toldorfree.rebuilding import base_parts, rebuilt, rows_fitting
from toldorfree.ringglue import glue_gives_ring, glue_symmetries, ring_names
from toldorfree.rings import is_ring, neighbours_split, ring_group, ring_order, same_ring
from toldorfree.secrets import link_names, links, needed, openers, opens, what_seen
from toldorfree.spectra import alike_just, rank_alike, rank_spectrum, spectrum
from toldorfree.squares import closes, comes_of, corner, open_corner, turns_alike, ways
from toldorfree.stacks import mixed_lot, stack, stackable
from toldorfree.sums import cubes_of, is_sum_closed
from toldorfree.symmetries import count_symmetries, leads, symmetries_of
from toldorfree.tables import Table
from toldorfree.texts import table_from, table_text
from toldorfree.together import least_many, rank_tuples, tuples_just
from toldorfree.transversals import partings_by_transversals, transversals
from toldorfree.trees import Tree, rebuilt_from, tree_of
from toldorfree.trials import tried

TABLE = Table.parity(3, 3).with_copy(1)
ROW = [0, 1, 2, 1]
RANKS = Ranks(TABLE)
SAME = Renaming.same(3, 4)
BREAK = Break([1], [2], [0, 0], [1, 1])
SMALL = Table.parity(4, 3)
BLOCKS = [[0, 1, 0, 1], [0, 1, 0, 1], (0, 1, 0, 1)]
SPLIT = Table.parity(2, 5)
RING = ring_table(FOUR, 4)
TREE = tree_of(SPLIT.with_copy(1))
STAR = tree_of(SPLIT)[0]
POINTS = four_point_table(KLEIN)
DESK = Desk(TABLE)
DESK.deal(2)
CALLS = (
    (lot_of, [2, 0], 3), (rest_of, [2, 0], 3), (plus, [2, 0], [1], 3), (common, [2, 0], [2], 3), (minus, [2, 0], [2], 3),
    (Table, 2, [[0, 1], [1, 1]]), (Table.alike, [0, 1], [0, 2]), (TABLE.part_rows, [2, 0]), (TABLE.rows_with, [2, 0], [1, 1]),
    (TABLE.number_of, ROW), (TABLE.part_table, [2, 0]), (TABLE.moved, [3, 1, 0, 2]), (TABLE.with_copy, 2),
    (lambda lot: TABLE - lot, [1, 0]), (lambda row: row in TABLE, ROW), (table_text, TABLE),
    (table_from, "signs 2 columns 1\n1"), (Renaming, [[1, 0], [0, 1]]), (SAME, ROW), (renamed, TABLE, SAME),
    (sees, TABLE, [2, 0], 1), (tells, TABLE, [2, 0], 1), (leaves_free, TABLE, [2], 1), (told_by, TABLE, [3, 0]),
    (is_full, TABLE, [2, 0]), (is_fair, TABLE), (is_latin, TABLE), (power_of, 9, 3), (table_circuits, UNFAIR[0]),
    (is_break, UNFAIR[2], BREAK), (fair_up_to, UNFAIR[0], 1), (seen_by_all, TABLE, 1), (least_tellers, TABLE, 1),
    (needed_for, TABLE, 1), (Ranks, TABLE), (RANKS.rank, [2, 0]), (RANKS.told, [3, 0]), (RANKS.is_closed, [3, 0]),
    (RANKS.meet_number, [2, 0], [3, 1]), (RANKS.is_modular, [2, 0], [3, 1]), (hanging_parts, TABLE),
    (hangs_together, TABLE), (circuits_of, TABLE), (bases_of, TABLE), (least_base, TABLE), (circuit_in, TABLE, [3, 0], 2),
    (fixed_columns, TABLE), (equal_columns, TABLE), (connecting_circuit, TABLE, 0, 2),
    (rows_fitting, 3, 3, [[[2, 0], Table.parity(3, 2)], ([1], Table.full(3, 1))]), (base_parts, TABLE, [3, 0]),
    (rebuilt, TABLE, [3, 0]), (renaming_between, TABLE, TABLE), (equal_up_to_names, TABLE, TABLE), (keeps, TABLE, SAME),
    (Group, [[0, 1], [1, 0]]), (KLEIN.product_of, [3, 1, 2]), (KLEIN.generated, [3, 1]), (KLEIN.is_normal, [1, 0]),
    (KLEIN.subgroups,), (KLEIN.normal_subgroups,), (KLEIN.commutators,), (KLEIN.automorphisms,),
    (KLEIN.isomorphism_to, KLEIN), (is_sum_closed, TABLE), (cubes_of, 3, 3), (rows_apart, TABLE, TABLE),
    (gap_bound, TABLE, TABLE), (least_gap, TABLE), (near_one, [[0, 0, 0], [1]], [Table.parity(2, 3), Table.parity(2, 3)]),
    (spectrum, TABLE, ROW), (rank_spectrum, 2, RANKS), (alike_just, TABLE, ROW, [3, 1]), (rank_alike, 2, RANKS, [3, 1]),
    (tuples_just, TABLE, ROW, [3, 1], 2), (rank_tuples, 2, RANKS, [3, 1], 2), (least_many, 2, RANKS),
    (dual_count, 2, RANKS, [3, 1]), (dual_spectrum, 2, RANKS), (turned, 3, [1, 0, 6, 2]),
    (least_difference, TABLE), (farthest_closed, TABLE), (pairs_at, TABLE, 3), (held, TABLE, 3, 2),
    (short_part, TABLE, [2, 0], [1, 1]), (stacked_parts, TABLE, 3), (stack, SMALL, SMALL, SMALL, SMALL),
    (mixed_lot, [Table.full(2, 2), Table.parity(2, 2)]), (stackable, [SMALL] * 4), (unpaired, SMALL, 2),
    (is_paired, SMALL, 2), (chosen_rows, SMALL, [[2, 0], (1, 3), [3, 1]]), (is_inner, SMALL, [[2, 0], (1, 3), [3, 1]]),
    (relabelled, SMALL, [[2, 0], (1, 3), [3, 1]]), (inner_through, SMALL, 2, [1, 1, 2]), (coarse_table, SMALL, BLOCKS),
    (is_coarse, SMALL, BLOCKS), (block_of, SMALL, BLOCKS, [1, 1, 2]), (coarse_blocks, SMALL, 2),
    (classes, BENT, [1, 0], [3, 2]), (class_count, BENT, [1, 0], [3, 2]), (class_shares, BENT, [1, 0], [3, 2]),
    (meets, BENT, [1, 0], [3, 2]), (open_round, BENT, [1, 0], [3, 2]), (full_classes, BENT, [1, 0], [3, 2]),
    (closing_row, TABLE, [2, 0], [3], ROW, [1, 1, 1, 1]), (foursomes, BENT, [1, 0], [3, 2]),
    (most_foursomes, 2, RANKS, [1, 0], [3, 2]), (seen_evenly, BENT, [1, 0], [3, 2], [2]), (free_within, BENT, [1, 0], [3]),
    (is_laid, SMALL, [FOUR, FOUR, FOUR]), (laid_table, [FOUR, KLEIN], [[0, 0], [1, 2]]), (square_of, FOUR),
    (ring_table, KLEIN, 3), (bent_table, 4, [[1, 0], (), [1, 2]]), (numbered, [7, -1, 7]), (column_parting, TABLE, 2),
    (put_in, TABLE, [0, 1, 2] * 3), (tells_parting, TABLE, [2, 0], [0, 1, 2] * 3), (least_lots, TABLE, [0, 1, 2] * 3),
    (goes_in, TABLE, [0, 1, 2] * 3), (greatest_silent, TABLE, [0, 1, 2] * 3), (why_not, TABLE, [0, 1, 2] + [0] * 6),
    (class_parting, BENT, [1, 0], [3, 2]), (meeting_column, SPLIT, [1, 0], [4, 3, 2]), (transversals, Table.full(3, 2)),
    (partings_by_transversals, Table.full(3, 2)), (goings, TABLE), (goings_with, TABLE, [2]),
    (put_all, TABLE, [[0, 1, 2] * 3, (0,) * 9]), (cuts_of, SPLIT), (splits_of, SPLIT), (strong_splits, SPLIT),
    (is_split, SPLIT, [1, 0]), (class_column, SPLIT, [1, 0]), (crosses, [1, 0], [2, 1], 4), (glued, SPLIT, 1, SPLIT, 2),
    (unglued, SPLIT, [2, 0]), (quarters, [1, 0], [2, 1], 4), (third, [1, 0], [2, 1], 4),
    (quarter_table, RING, [1, 0], [2, 1]), (crossing_kind, RING, [1, 0], [2, 1]), (crossing_group, RING, [1, 0], [2, 1]),
    (tree_of, TABLE), (TREE.sorts,), (TREE.splits,), (TREE.ends, [1, 5]), (rebuilt_from, TREE), (STAR.inner_lots,),
    (STAR.many_splits,), (STAR.ring_way,), (STAR.group,), (TREE[0].inner_lots,), (TREE[0].ring_way,), (TREE[0].group,),
    (elements_of, RING), (read_product, RING), (read_group, RING), (is_ring, RING), (ring_order, RING), (ring_group, RING),
    (neighbours_split, RING), (same_ring, RING, RING), (symmetries_of, RING), (count_symmetries, RING),
    (leads, RING, [0, 0, 0, 0], [1, 1, 1, 1]), (inner_count, FOUR, 4, 2), (coarse_count, FOUR, 2),
    (subgroup_signs, RING, [2, 0]), (normal_blocks, RING, [2, 0]), (ring_names, FOUR, FOUR),
    (glue_gives_ring, FOUR, FOUR, [1, 2, 3, 0]), (glue_symmetries, SMALL, 0, SMALL, 1), (ways, SMALL), (closes, SMALL),
    (open_corner, SMALL), (corner, SMALL, 1, 2, 3), (comes_of, SMALL, FOUR), (turns_alike, SMALL),
    (four_point_table, FOUR), (is_four_points, POINTS), (four_point_group, POINTS), (fits_in, SMALL), (triangles, POINTS),
    (rounds_of_edges, POINTS), (opposite_meet, POINTS, 0, 2), (opposite_column, POINTS, 0, 2), (seventh, POINTS, 0, 2),
    (halves_alike, POINTS), (plane_table, KLEIN), (short_plane_table, Group.sums(3)), (is_plane, POINTS.with_copy(0)),
    (is_short_plane, POINTS.with_copy(0)), (line_table, 5), (opens, TABLE, 1, [3, 0]), (openers, TABLE, 1),
    (needed, TABLE, 1), (what_seen, TABLE, 1, [2, 0], [1, 1]), (links, TABLE, [2], 0, 1), (mends, TABLE, [3, 0]),
    (link_names, TABLE, [2], [1], 0, 1), (ways_left, TABLE, [3, 0]), (refilled, TABLE, [None, 1, None, 1]),
    (wrong_found, TABLE), (wrong_mended, TABLE), (nearest, TABLE, [0, 0, 1, 1]), (least_changes, TABLE, 1),
    (changed, TABLE, ROW, 1, 2), (Desk, TABLE), (DESK.tree,), (DESK.opened_by,), (DESK.spectrum_now,), (DESK.ring_now,),
    (tried, DESK, [["hold", [0, 1]], ("copy", [1])], listing), (line_of, TABLE, ROW), (listing, DESK),
)
QUESTIONS = (is_fair, is_latin, hangs_together, equal_up_to_names, keeps, is_sum_closed, tells, leaves_free, is_full,
             is_break, fair_up_to, seen_by_all, RANKS.is_closed, RANKS.is_modular, KLEIN.is_normal, stackable, is_paired,
             is_inner, is_coarse, meets, full_classes, seen_evenly, is_laid, tells_parting, goes_in, is_split, crosses,
             is_ring, neighbours_split, same_ring, glue_gives_ring, closes, comes_of, turns_alike, is_four_points,
             opposite_meet, halves_alike, is_plane, is_short_plane, opens, mends)


def written(value):
    """The value with what its objects hold in the place of the objects."""
    if isinstance(value, (list, tuple)):
        return [value.__class__] + [written(part) for part in value]
    if isinstance(value, (Table, Renaming, Group, Ranks, Break, Piece, Tree, Desk)):
        return [value.__class__, repr([(name, written(part)) for name, part in sorted(vars(value).items())])]
    return value


class ConventionsTest(Asking):
    def test_results_are_tuples(self):
        for call, *values in CALLS:
            self.is_tuples(call(*values))

    def test_arguments_and_tables_stay(self):
        before = [written(value) for value in (TABLE, RANKS, SAME, KLEIN, BREAK, RING, SPLIT, SMALL, TREE, STAR, POINTS, DESK)]
        for call, *values in CALLS:
            kept = written(copy.deepcopy(values))
            call(*values)
            self.assertEqual(written(values), kept, call)
        self.assertEqual([written(value) for value in (TABLE, RANKS, SAME, KLEIN, BREAK, RING, SPLIT, SMALL, TREE, STAR, POINTS, DESK)], before)

    def test_equal_arguments_give_equal_results(self):
        for call, *values in CALLS:
            self.assertEqual(written(call(*copy.deepcopy(values))), written(call(*values)), call)

    def test_lists_and_tuples_say_the_same(self):
        for call, *values in CALLS:
            fixed = [tuple(tuple(part) if isinstance(part, list) else part for part in value)
                     if isinstance(value, list) else value for value in values]
            self.assertEqual(written(call(*fixed)), written(call(*values)), call)

    def test_questions_are_answered_by_true_or_false(self):
        for call, *values in CALLS:
            if call in QUESTIONS:
                self.assertIsInstance(call(*values), bool)
        for table in FAIR[:3] + UNFAIR[:3]:
            for call in (is_fair, is_latin, is_sum_closed):
                self.assertIsInstance(call(table), bool)
        self.assertIsInstance(KLEIN.is_abelian(), bool)
        self.assertIsInstance(KLEIN.has_exponent_two(), bool)

    def test_objects_stay_when_lists_change(self):
        rows, names, lines = [[0, 1], [1, 1]], [[1, 0], [0, 1]], [[0, 1], [1, 0]]
        parting, bends, parts, again = [0, 1, 1, 0], [[0, 1], [1]], [[0, 0], [1, 0]], [[0, 0, 0, 1], [1, 1, 0, 0]]
        square = Table.full(2, 2)
        made = (Table(2, rows), Renaming(names), Group(lines), put_in(square, parting), bent_table(3, bends),
                laid_table([Group.sums(2)] * 2, parts), put_all(square, again),
                glued(Table.parity(2, 2), 0, Table.parity(2, 3), 1, names=names[0]), tree_of(Table(2, lines)))
        before = [written(value) for value in made]
        parting[0] = 1
        for lists in (rows, names, lines, bends, parts, again):
            lists[0][0], lists[0][1] = lists[0][1], lists[0][0]
            lists.append(lists[0])
        self.assertEqual([written(value) for value in made], before)

    def test_what_a_desk_has_is_tuples(self):
        for part in (DESK.deeds, DESK.opened_by(), DESK.spectrum_now(), TREE.edges, TREE.pieces, TREE.table.rows):
            self.is_tuples(part)
        self.assertEqual([DESK.now, DESK.deeds, DESK.left, DESK.wanted], [TABLE, ("deal",), 1, 2])

    def test_breaks_are_found_alike(self):
        for table in UNFAIR:
            self.assertEqual(written(find_break(table)), written(find_break(Table(table.signs, table.rows))))

    def test_generators(self):
        self.assertEqual(list(lots_of(3)), list(lots_of(3)))
        self.assertEqual(list(closed_lots(TABLE)), list(closed_lots(TABLE)))
        self.assertEqual(list(inner_tables(SMALL, 2)), list(inner_tables(SMALL, 2)))
        for found in list(lots_of(3)) + list(closed_lots(TABLE)) + list(inner_tables(SMALL, 2)):
            self.assertIsInstance(found, tuple)
            self.is_tuples(found)


if __name__ == "__main__":
    unittest.main()
