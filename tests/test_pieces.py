"""Pieces: what [98] to [100] and [102] say of them, and the section toldorfree/pieces.py."""

import unittest
from itertools import permutations

from tests.asking import Asking
from tests.samples import BENT, FIVE, FOUR, GROUPS, KLEIN, NO_INTEGERS, bent, four_points, plain_circuits, ring
from tests.wholes import (TREES, TURNS, orders_round, plain_piece_table, plain_product, plain_sorts, plain_splits,
                          runs)
from toldorfree import pieces
from toldorfree.errors import BadNumber
from toldorfree.pieces import EqualPiece, FirmPiece, Piece, RingPiece, SmallPiece, SquarePiece, StarPiece
from toldorfree.ranks import hangs_together
from toldorfree.rings import is_ring
from toldorfree.tables import Table
from toldorfree.trees import tree_of

CLASSES = {"small": SmallPiece, "equal": EqualPiece, "square": SquarePiece, "star": StarPiece, "ring": RingPiece,
           "firm": FirmPiece}


def pieces_of(sort=None):
    """Each piece of the trees, of one sort or of all."""
    return [piece for table in TREES for piece in tree_of(table) if sort in (None, piece.SORT)]


class ClassesTest(Asking):
    def test_classes(self):
        self.assertEqual(Piece.SORT, "")
        for sort, kind in CLASSES.items():
            self.assertEqual(kind.SORT, sort)
            self.assertEqual(kind.__bases__, (Piece,))
        self.assertEqual({kind for kind in vars(pieces).values() if isinstance(kind, type) and issubclass(kind, Piece)},
                         set(CLASSES.values()) | {Piece})

    def test_methods_of_each_class(self):
        for name in ("inner_lots", "many_splits", "ring_way", "group"):
            self.assertIn(name, vars(Piece))
        self.assertIn("many_splits", vars(EqualPiece))
        for kind in (StarPiece, RingPiece):
            for name in ("many_splits", "ring_way", "group"):
                self.assertIn(name, vars(kind))

    def test_each_piece_has_one_sort(self):
        found = set()
        for piece in pieces_of():
            self.assertEqual(plain_sorts(piece.table), [piece.SORT])
            self.assertIs(piece.__class__, CLASSES[piece.SORT])
            found.add(piece.SORT)
        self.assertEqual(found, set(CLASSES))

    def test_attributes(self):
        for table in TREES:
            for piece in tree_of(table):
                self.is_tuples(piece.lots)
                self.assertEqual(piece.table, plain_piece_table(table, piece.lots))
                self.assertEqual(piece.table.columns, len(piece.lots))
                self.assertTrue(hangs_together(piece.table))
                self.assertEqual(piece.inner_lots(), tuple(lot for lot in piece.lots if len(lot) > 1))
                # no split of its own table is strong in it
                self.assertEqual(tree_of(piece.table).edges, ())

    def test_many_splits(self):
        for piece in pieces_of():
            many = len(piece.lots)
            self.assertEqual(piece.many_splits(), len(plain_splits(piece.table)))
            wanted = {"equal": 2 ** (many - 1) - 1 - many, "star": 2 ** (many - 1) - 1 - many,
                      "ring": many * (many - 3) // 2}
            self.assertEqual(piece.many_splits(), wanted.get(piece.SORT, 0))
        self.assertEqual([tree_of(table)[0].many_splits() for table in (
            Table.parity(2, 8), Table.parity(2, 4), ring(TURNS, 5), ring(TURNS, 4), FIVE, BENT, Table.full(5, 1),
            Table(2, [(0,) * 7, (1,) * 7]), Table(2, [(0,) * 3, (1,) * 3]))], [119, 3, 5, 2, 0, 0, 0, 56, 0])

    def test_pieces_with_neither_way_nor_group(self):
        for sort in ("small", "equal", "square", "firm"):
            for piece in pieces_of(sort):
                self.assertIsNone(piece.ring_way())
                for base in (None, 0, 1, -1, True, "x", 10 ** 9):
                    self.assertIsNone(piece.group(base=base))
                self.assertIsNone(piece.group())

    def test_small_tables(self):
        # no piece is a ring for up to 5 signs, and for four columns the splits tell the sort
        for piece in pieces_of():
            if piece.table.signs <= 5:
                self.assertNotEqual(piece.SORT, "ring")
        for table in TREES:
            if table.columns == 4 and plain_circuits(table) == [(0, 1, 2, 3)]:
                wanted = [("firm",), ("square", "square"), ("ring",), ("star",)][len(plain_splits(table))]
                self.assertEqual(tree_of(table).sorts(), wanted)


class RingsTest(Asking):
    def test_stars(self):
        for piece in pieces_of("star"):
            many = len(piece.lots)
            self.assertEqual(piece.ring_way(), tuple(range(many)))
            self.assertTrue(piece.group().is_abelian())
            for order in list(permutations(range(many)))[::7 if many < 6 else 997]:
                self.assertIs(is_ring(piece.table.moved(order)), True)
            self.check_group(piece)

    def test_rings(self):
        ways = set()
        for piece in pieces_of("ring"):
            wanted = [order for order in orders_round(len(piece.lots)) if runs(order) == set(plain_splits(piece.table))]
            self.assertEqual([piece.ring_way()], wanted)
            self.assertFalse(piece.group().is_abelian())
            for order in orders_round(len(piece.lots)):
                self.assertIs(is_ring(piece.table.moved(order)), order in wanted)
            ways.add(piece.ring_way())
            self.check_group(piece)
        self.assertEqual(ways, {(0, 1, 2, 3), (0, 2, 1, 3), (0, 1, 3, 2)})

    def test_ring_of_five_columns(self):
        for order in ((0, 1, 2, 3, 4), (2, 0, 4, 1, 3), (4, 3, 0, 2, 1)):
            piece = tree_of(ring(TURNS, 5).moved(order))[0]
            wanted = [way for way in orders_round(5) if runs(way) == set(plain_splits(piece.table))]
            self.assertEqual([piece.ring_way()], wanted)
            self.assertIs(is_ring(piece.table.moved(piece.ring_way())), True)
            self.assertIsNotNone(piece.group(base=700).isomorphism_to(TURNS))

    def check_group(self, piece):
        table = piece.table.moved(piece.ring_way())
        many = len(table)
        self.assertEqual(piece.group(), piece.group(base=0))
        self.assertEqual(piece.group(), piece.group(base=None))
        for base in (0, 1, many // 2, many - 1):
            self.assertEqual(piece.group(base=base).products, plain_product(table, table[base]))
        for base in [value for value in NO_INTEGERS if value is not None] + [-1, many]:
            self.wrong(BadNumber, "name", "base", piece.group, base=base)

    def test_groups(self):
        for group, table in ((FOUR, ring(FOUR, 4)), (KLEIN, ring(KLEIN, 5)), (TURNS, ring(TURNS, 4).moved((0, 2, 3, 1))),
                             (GROUPS["3"], Table.parity(3, 6)), (TURNS, ring(TURNS, 4).with_copy(2))):
            found = [piece.group() for piece in tree_of(table) if piece.SORT in ("star", "ring")]
            self.assertEqual(len(found), 1)
            self.assertIsNotNone(found[0].isomorphism_to(group))
        self.assertIsNone(tree_of(four_points(TURNS))[0].group())
        self.assertIsNone(tree_of(bent(4, [(0, 1)]))[1].group())


if __name__ == "__main__":
    unittest.main()
