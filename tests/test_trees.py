"""Trees: [98] to [105] and the section toldorfree/trees.py."""

import random
import unittest
from itertools import permutations

from tests.asking import Asking
from tests.samples import (BENT, FIVE, FOUR, GROUPS, KLEIN, NO_INTEGERS, NO_LISTS, UNFAIR, all_lots, bent, drawn,
                           four_points, glue_plainly, plain_classes, plain_fair, ring, shuffled, square_of)
from tests.wholes import (LOOSE, SUMS4, TREES, TURNS, plain_cuts, plain_edges, plain_pieces, plain_splits, rest)
from toldorfree.classes import class_shares
from toldorfree.coarse import coarse_blocks, coarse_table
from toldorfree.crossing import crossing_kind, third
from toldorfree.cuts import class_column, crosses, cuts_of, is_split, splits_of, strong_splits
from toldorfree.errors import BadLot, BadNumber, NotCut, NotFair, NotWhole
from toldorfree.glue import glued
from toldorfree.goings import put_all
from toldorfree.holding import held, stacked_parts
from toldorfree.inner import inner_tables, relabelled
from toldorfree.laid import bent_table, ring_table
from toldorfree.matching import equal_up_to_names
from toldorfree.meeting import meets
from toldorfree.partings import numbered
from toldorfree.putting import goes_in
from toldorfree.ranks import Ranks, hanging_parts
from toldorfree.stacks import stack
from toldorfree.tables import Table
from toldorfree.trees import rebuilt_from, tree_of


class TreeTest(Asking):
    def test_edges_and_pieces(self):
        sorts = set()
        for table in TREES:
            tree = tree_of(table)
            self.assertEqual(tree.table, table)
            self.assertEqual(tree.edges, tuple(plain_edges(table)))
            self.assertEqual([piece.lots for piece in tree.pieces], plain_pieces(table))
            self.assertEqual(tree.sorts(), tuple(piece.SORT for piece in tree.pieces))
            self.assertEqual(len(tree), len(tree.edges) + 1)
            self.assertLessEqual(len(tree.edges), max(0, table.columns - 3))
            self.is_tuples((tree.edges, tree.pieces, tree.sorts(), tree.splits()))
            sorts.add(tree.sorts())
        self.assertLessEqual({("square", "equal", "square"), ("ring", "equal"), ("equal", "equal", "square"), ("star",),
                              ("square", "firm"), ("equal", "firm"), ("small",), ("ring",), ("firm",)}, sorts)

    def test_pieces_by_number(self):
        tree = tree_of(Table.parity(2, 3).with_copy(0).with_copy(1))
        self.assertEqual(len(tree), 3)
        self.assertEqual([tree[0], tree[1], tree[2]], list(tree))
        self.assertEqual(tuple(tree), tree.pieces)
        for number in NO_INTEGERS + (-1, 3):
            self.wrong(BadNumber, "name", "number", lambda: tree[number])

    def test_ends(self):
        joined = 0
        for table in TREES:
            tree = tree_of(table)
            sides = {}
            for edge in tree.edges:
                for side in (edge, rest(table, edge)):
                    wanted = tuple(number for number, piece in enumerate(tree)
                                   if edge in piece.lots or rest(table, edge) in piece.lots)
                    self.assertEqual(len(wanted), 2)
                    self.assertEqual(tree.ends(list(side[::-1])), wanted)
                    sides[side] = True
                first, second = [tree[number] for number in tree.ends(edge)]
                self.assertNotEqual((first.SORT, second.SORT), ("equal", "equal"))
                joined += 1
            for lot in all_lots(table.columns):
                if lot not in sides:
                    self.wrong(NotCut, "lot", lot, tree.ends, lot[::-1])
            if table.columns > 1:
                self.wrong_lot_lightly(tree.ends, columns=table.columns)
        self.assertGreater(joined, 20)
        self.wrong_lots(5, tree_of(Table.parity(2, 5)).ends)

    def test_pieces_are_joined_by_one_chain(self):
        for table in TREES:
            tree = tree_of(table)
            near = {number: set() for number in range(len(tree))}
            for edge in tree.edges:
                first, second = tree.ends(edge)
                near[first].add(second)
                near[second].add(first)
            reached, queue = {0}, [0]
            while queue:
                queue.extend(near[queue.pop()] - reached)
                reached.update(queue)
            self.assertEqual(len(reached), len(tree))
            self.assertEqual(sum(map(len, near.values())), 2 * len(tree) - 2)

    def test_splits(self):
        for table in TREES:
            tree = tree_of(table)
            self.assertEqual(tree.splits(), tuple(plain_splits(table)))
            self.assertEqual(len(tree.splits()), len(tree.edges) + sum(piece.many_splits() for piece in tree))

    def test_neighbours_do_not_become_one(self):
        for table in TREES:
            tree = tree_of(table)
            for edge in tree.edges:
                one, other = [tree[number] for number in tree.ends(edge)]
                self.assertNotEqual({one.SORT, other.SORT}, {"equal"})
                if {one.SORT, other.SORT} <= {"square", "star", "ring"} and table.many <= 256:
                    sides = (edge, rest(table, edge))
                    column = [number for number, lot in enumerate(one.lots) if lot in sides][0]
                    second = [number for number, lot in enumerate(other.lots) if lot in sides][0]
                    self.assertGreater(len(tree_of(glued(one.table, column, other.table, second))), 1)

    def test_few_columns(self):
        for table, lots in ((Table(3, [(1,)]), [((0,),)]), (Table.full(4, 1), [((0,),)]),
                            (Table(2, [(0, 1), (1, 0)]), [((0,), (1,))]), (FIVE, [((0,), (1,), (2,))])):
            tree = tree_of(table)
            self.assertEqual(([piece.lots for piece in tree], tree.edges, tree.splits()), (lots, (), ()))
            self.assertEqual(tree[0].table, table)
            self.assertEqual(rebuilt_from(tree), table)

    def test_examples(self):
        tree = tree_of(bent_table(4, ((0, 1),)))
        self.assertEqual([tree.edges, tree.sorts(), tree[0].lots, tree[1].lots, tree.ends((2, 3))],
                         [((0, 1),), ("square", "square"), ((0,), (1,), (2, 3)), ((0, 1), (2,), (3,)), (0, 1)])
        square = Table.parity(2, 3)
        table = glued(square, 2, square, 0)
        self.assertEqual([table == Table.parity(2, 4), tree_of(table).sorts(), tree_of(table).splits()],
                         [True, ("star",), ((0, 1), (0, 2), (0, 3))])

    def test_wrong_tables(self):
        for table in UNFAIR:
            with self.assertRaises(NotFair):
                tree_of(table)
        self.wrong(NotFair, "lot", (3, 4), tree_of, UNFAIR[-1])
        for table in LOOSE:
            self.wrong(NotWhole, "lot", hanging_parts(table)[0], tree_of, table)


class RebuiltTest(Asking):
    def test_in_any_order(self):
        chance = random.Random(1)
        for table in TREES:
            tree = tree_of(table)
            self.assertEqual(rebuilt_from(tree), table)
            self.assertEqual(rebuilt_from(tree, order=None), table)
            orders = list(permutations(range(len(tree))))
            for order in chance.sample(orders, min(4, len(orders))):
                self.assertEqual(rebuilt_from(tree, order=order), table)
                self.assertEqual(rebuilt_from(tree, order=list(order)), table)

    def test_four_squares_round_equal_columns(self):
        table = Table(3, [(x, x) + (x,) * 2 for x in range(3)])
        for seed in range(4):
            table = glue_plainly(table, 0, Table.parity(3, 3), seed % 3, drawn(3, seed))
        tree = tree_of(table)
        self.assertEqual((table.columns, sorted(tree.sorts())), (8, ["equal"] + ["square"] * 4))
        middle = tree.sorts().index("equal")
        squares = [number for number in range(5) if number != middle]
        for order in ([middle] + squares, squares + [middle], squares[:2] + [middle] + squares[2:]):
            self.assertEqual(rebuilt_from(tree, order=order), table)

    def test_wrong_orders(self):
        tree = tree_of(Table.parity(2, 3).with_copy(0).with_copy(1))
        for order in [value for value in NO_LISTS if value is not None]:
            self.wrong(BadLot, "place", -1, rebuilt_from, tree, order=order)
        for entry in NO_INTEGERS + (-1, 3):
            self.wrong(BadLot, "place", 0, rebuilt_from, tree, order=[entry])
            self.wrong(BadLot, "place", 1, rebuilt_from, tree, order=(2, entry, entry))
        self.wrong(BadLot, "place", 2, rebuilt_from, tree, order=(1, 2, 1, 9))
        for order in ((), [0], (2, 1), [0, 2]):
            self.wrong(BadLot, "place", -1, rebuilt_from, tree, order=order)


class GlueTest(Asking):
    def check_glue(self, one, column, other, second, names):
        """[101] for two tables; whether the two pieces at the glue become one."""
        table = glued(one, column, other, second, names=names)
        left = [place for place in range(one.columns) if place != column]
        right = [place for place in range(other.columns) if place != second]
        sides = [tuple(left.index(place) for place in self.without(edge, column, one)) for edge in tree_of(one).edges]
        sides += [tuple(len(left) + right.index(place) for place in self.without(edge, second, other))
                  for edge in tree_of(other).edges]
        at_one = [piece for piece in tree_of(one) if (column,) in piece.lots][0]
        at_other = [piece for piece in tree_of(other) if (second,) in piece.lots][0]
        become_one = at_one.SORT == at_other.SORT == "equal"
        if {at_one.SORT, at_other.SORT} <= {"square", "star", "ring"}:
            small = glued(at_one.table, at_one.lots.index((column,)), at_other.table, at_other.lots.index((second,)),
                          names=names)
            become_one = len(tree_of(small)) == 1
        if not become_one:
            sides.append(tuple(range(len(left))))
        found = tree_of(table)
        wanted = {side if 0 in side else rest(table, side) for side in sides}
        self.assertEqual(set(found.edges), wanted)
        left_sorts = sorted(tree_of(one).sorts() + tree_of(other).sorts())
        if become_one:
            left_sorts.remove(at_one.SORT)
            left_sorts.remove(at_other.SORT)
            new = list(found.sorts())
            for sort in left_sorts:
                new.remove(sort)
            self.assertEqual(len(new), 1)
        else:
            self.assertEqual(sorted(found.sorts()), left_sorts)
        return become_one

    def without(self, edge, column, table):
        """The side of an edge without the column."""
        return rest(table, edge) if column in edge else edge

    def test_trees_of_glues(self):
        chance = random.Random(4)
        fours = (SUMS4, square_of(KLEIN), BENT, bent(4, [(0, 1)]), ring(FOUR, 4), SUMS4.with_copy(1),
                 Table(4, [(k, 3 - k, k) for k in range(4)]))
        twos = (Table.parity(2, 3), Table.parity(2, 4), Table.parity(2, 3).with_copy(0), four_points(GROUPS["2"]),
                Table(2, [(0, 1, 0), (1, 0, 1)]))
        fives = (FIVE, square_of(GROUPS["5"]))
        found = []
        for tables in (fours, twos, fives):
            for one in tables:
                for other in tables:
                    if one.columns + other.columns <= 9 and len(one) * len(other) // one.signs <= 300:
                        found.append(self.check_glue(one, chance.randrange(one.columns), other,
                                                     chance.randrange(other.columns), drawn(one.signs, len(found))))
        self.assertGreater(found.count(True), 15)
        self.assertGreater(found.count(False), 15)

    def test_rings_glued_to_squares(self):
        turned = square_of(TURNS)
        self.assertIs(self.check_glue(turned, 2, turned, 0, tuple(range(6))), True)
        self.assertIs(self.check_glue(turned, 2, square_of(GROUPS["6"]), 0, tuple(range(6))), False)
        self.assertIs(self.check_glue(ring(TURNS, 4), 3, Table(6, [(k, k, k) for k in range(6)]), 0, tuple(range(6))), False)


class OtherTablesTest(Asking):
    def test_small_numbers_of_signs(self):
        for table in TREES:
            if table.signs <= 3:
                self.assertEqual(splits_of(table), cuts_of(table))
            for lot in set(plain_cuts(table)) - set(plain_splits(table)):
                self.assertLess(len(set(plain_classes(table, lot, rest(table, lot)))), table.signs)
                self.assertEqual(sum(class_shares(table, lot, rest(table, lot))), table.signs)

    def test_columns_left_out_and_held(self):
        for table in TREES[::2]:
            for lot in plain_splits(table)[::5]:
                for column in lot:
                    place = [other for other in range(table.columns) if other != column]
                    sides = [[place.index(other) for other in side if other != column]
                             for side in (lot, rest(table, lot))]
                    for smaller in (table - (column,), held(table, column, table[0][column])):
                        self.assertIs(meets(smaller, *sides), True)
                        self.assertIn(Ranks(smaller).meet_number(*sides), (0, 1))

    def test_held_at_the_last_column(self):
        for table in (bent(4, [(0, 1)]), glue_plainly(FIVE, 2, FIVE, 0, drawn(5, 1)), ring(TURNS, 4)):
            self.assertIn((0, 1), splits_of(table))
            held_ones = stacked_parts(table, 3)
            for other in held_ones[1:]:
                self.assertTrue(equal_up_to_names(held_ones[0], other))
        self.assertFalse(equal_up_to_names(held(BENT, 2, 0), held(BENT, 2, 2)))

    def test_stacks_of_squares(self):
        for square in (FIVE, SUMS4, Table.parity(3, 3)):
            signs = square.signs
            moved = [Table(signs, [row[:2] + ((row[2] + k) % signs,) for row in square]) for k in range(signs)]
            table = stack(*moved)
            self.assertEqual(Ranks(table), Ranks(Table.parity(signs, 4)))
            self.assertIs(is_split(table, (0, 3)), True)
            self.assertFalse(plain_fair(stack(*moved[:-1], moved[0])))

    def test_shapes_from_trees(self):
        # three tables with the same lots of pieces, and pieces of one shape; the numbers of signs differ
        tables = [glue_plainly(square_of(group), 2, square_of(group), 0, names)
                  for group, names in ((FOUR, (0, 2, 1, 3)), (GROUPS["5"], (0, 1, 2, 4, 3)))]
        self.assertEqual({tuple(piece.lots for piece in tree_of(table)) for table in tables},
                         {(((0,), (1,), (2, 3)), ((0, 1), (2,), (3,)))})
        self.assertEqual(Ranks(tables[0]), Ranks(tables[1]))
        self.assertEqual([tree_of(table).sorts() for table in (ring_table(FOUR, 4), BENT, bent_table(4, ((0, 1),)))],
                         [("star",), ("firm",), ("square", "square")])

    def test_renamed_and_moved(self):
        chance = random.Random(3)
        for seed, table in enumerate(TREES[::2]):
            tree, other = tree_of(table), tree_of(shuffled(table, seed))
            self.assertEqual([cuts_of(table), tree.splits(), tree.sorts(), [piece.lots for piece in tree]],
                             [cuts_of(other.table), other.splits(), other.sorts(), [piece.lots for piece in other]])
            order = chance.sample(range(table.columns), table.columns)
            moved = tree_of(table.moved(order))
            wanted = {tuple(sorted(tuple(sorted(order.index(column) for column in lot)) for lot in piece.lots)): piece.SORT
                      for piece in tree}
            self.assertEqual({piece.lots: piece.SORT for piece in moved}, wanted)

    def test_paired_tables(self):
        bends = bent(4, [(0, 1)])
        for one, other in ((bends, ring(GROUPS["2"], 4)), (ring(GROUPS["2"], 4), BENT), (ring(GROUPS["2"], 4),
                           glue_plainly(SUMS4, 1, square_of(KLEIN), 2, drawn(4, 3)))):
            self.assertEqual(set(splits_of(one * other)), set(splits_of(one)) & set(splits_of(other)))

    def test_inner_and_coarse_tables(self):
        asked = 0
        for table in (bent(4, [(0, 1)]), ring(FOUR, 4), ring(KLEIN, 4), BENT.with_copy(0)):
            splits = set(splits_of(table))
            for chosen in list(inner_tables(table, 2))[::5]:
                self.assertLessEqual(splits, set(splits_of(relabelled(table, chosen))))
                asked += 1
            for blocks in coarse_blocks(table, 2):
                self.assertLessEqual(splits, set(splits_of(coarse_table(table, blocks))))
                asked += 1
        self.assertGreater(asked, 10)


class ClassColumnsTest(Asking):
    def test_strong_splits(self):
        asked = 0
        for table in TREES:
            tree = tree_of(table)
            if tree.edges and table.columns + len(tree.edges) <= 8:
                names = {lot: numbers for lot, numbers in self.columns(table, tree.edges).items()}
                larger = put_all(table, [class_column(table, edge) for edge in tree.edges])
                self.assertEqual(Ranks(put_all(table, [class_column(table, edge) for edge in tree.edges[::-1]])).total,
                                 Ranks(table).total)
                self.assertEqual(larger.many, table.many)
                self.assertEqual(plain_fair(larger), True) if table.many < 70 else self.assertTrue(Ranks(larger))
                for piece in tree:
                    places = [lot[0] if len(lot) == 1 else names[lot] for lot in piece.lots]
                    part = larger.part_table(places)
                    self.assertEqual(part.moved([sorted(places).index(place) for place in places]), piece.table)
                asked += 1
        self.assertGreater(asked, 10)

    def columns(self, table, edges):
        """The column of each side of an edge in the table with all class columns."""
        found = {}
        for number, edge in enumerate(edges):
            for side in (edge, rest(table, edge)):
                found[side] = table.columns + number
        return found

    def test_splits_that_cross(self):
        tables = [ring(group, 4) for group in (GROUPS["2"], GROUPS["3"], FOUR, KLEIN, GROUPS["5"], TURNS)]
        for table in tables + [Table.parity(2, 5), Table(4, [(k, k, 3 - k, k) for k in range(4)])]:
            for one in splits_of(table)[:4]:
                for other in splits_of(table)[:4]:
                    if crosses(one, other, table.columns):
                        self.check_crossing(table, one, other)

    def check_crossing(self, table, one, other):
        larger = put_all(table, [class_column(table, one), class_column(table, other)])
        ranks = Ranks(larger)
        self.assertEqual(ranks.total, Ranks(table).total)
        lot = third(one, other, table.columns)
        if crossing_kind(table, one, other) == "group" and is_split(table, lot):
            group = tree_of(table)[0].group()
            more = goes_in(larger, class_column(table, lot))
            self.assertIs(more, group.has_exponent_two() or group.size % 2 == 1)

    def test_what_both_sides_tell(self):
        for table in TREES[::3]:
            for lot in plain_cuts(table):
                numbers = plain_classes(table, lot, rest(table, lot))
                if max(numbers) > 0:
                    goes = max(numbers) < table.signs and goes_in(table, numbers)
                    self.assertIs(goes, lot in splits_of(table))
                    if goes:
                        self.assertEqual(numbered(numbers), class_column(table, lot))
        self.assertEqual(strong_splits(BENT), ())


if __name__ == "__main__":
    unittest.main()
