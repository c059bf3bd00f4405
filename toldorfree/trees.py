"""The tree of a table that hangs together: its pieces, and the edges that join them."""

from toldorfree.checks import is_within
from toldorfree.crossing import table_on
from toldorfree.cuts import splits_of, strong_splits
from toldorfree.errors import BadLot, BadNumber, NotCut
from toldorfree.lots import bad_place, is_part, lot_key, lot_of, plus, rest_of
from toldorfree.pieces import piece_of
from toldorfree.tables import Table, part_of


class Tree:
    """The pieces of a table, in their order."""

    def __init__(self, table, pieces, edges):
        self.table = table
        self.pieces = pieces
        self._edges = edges

    @property
    def edges(self):
        """The strong splits, each by its side with column 0, in lot order."""
        return self._edges

    def sorts(self):
        """The sorts of the pieces."""
        return tuple([piece.SORT for piece in self.pieces])

    def splits(self):
        """All splits, told from the edges and the pieces, each by its side with column 0, in lot order."""
        found = list(self._edges)
        for piece in self.pieces:
            # the first lot of a piece has column 0, as the first column of its table stands for it
            found.extend([union_of([piece.lots[column] for column in lot], self.table.columns)
                          for lot in splits_of(piece.table)])
        return tuple(sorted(found, key=lot_key))

    def ends(self, edge):
        """The numbers of the two pieces that the edge joins."""
        lot = lot_of(edge, self.table.columns)
        if side_with_zero(lot, self.table.columns) not in self._edges:
            raise NotCut(lot)
        sides = (lot, rest_of(lot, self.table.columns))
        return tuple([number for number, piece in enumerate(self.pieces)
                      if any([side in piece.lots for side in sides])])

    def __getitem__(self, at):
        if not is_within(at, 0, len(self.pieces) - 1):
            raise BadNumber("number")
        return self.pieces[at]

    def __len__(self):
        return len(self.pieces)

    def __iter__(self):
        return iter(self.pieces)


def union_of(lots, columns):
    """The lot of the columns in some of the lots."""
    found = ()
    for lot in lots:
        found = plus(found, lot, columns)
    return found


def side_with_zero(lot, columns):
    """The lot, or its rest if it has not column 0."""
    return lot if 0 in lot else rest_of(lot, columns)


def tree_of(table):
    """The tree of the table."""
    edges = strong_splits(table)
    pieces = [piece_of(table_on(table, lots), lots) for lots in lots_of_pieces(table.columns, edges)]
    return Tree(table, tuple(pieces), edges)


def lots_of_pieces(columns, edges):
    """The lots of each piece, for edges of which no two cross."""
    # seen from column 0, each piece but the first one stands behind one edge
    sides = [tuple(range(1, columns))] + [rest_of(edge, columns) for edge in edges]
    return sorted([lots_behind(side, sides, columns) for side in sides])


def lots_behind(side, sides, columns):
    """The lots of the piece that comes first behind the rest of side."""
    within = [lot for lot in sides if lot != side and is_part(lot, side)]
    largest = [lot for lot in within if not any([lot != other and is_part(lot, other) for other in within])]
    single = [(column,) for column in side if not any([column in lot for lot in largest])]
    return tuple(sorted([rest_of(side, columns)] + largest + single))


def check_order(order, many):
    """Raise BadLot unless order holds each of so many numbers once."""
    place = bad_place(order, many)
    if place is not None:
        raise BadLot(place)
    if len(order) < many:
        raise BadLot(-1)


def rebuilt_from(tree, *, order=None):
    """The table that the tables of the pieces make when they are joined in this order."""
    if order is not None:
        check_order(order, len(tree.pieces))
    columns = tree.table.columns
    way = list(range(len(tree.pieces))) if order is None else order
    names = []
    rows = [()]
    for number in way:
        piece = tree.pieces[number]
        # both pieces at an edge call it by the same side
        called = [lot if len(lot) == 1 else side_with_zero(lot, columns) for lot in piece.lots]
        rows = joined(rows, names, piece.table.rows, called)
        names = names + [name for name in called if name not in names]
    at = [names.index((column,)) for column in range(columns)]
    return Table(tree.table.signs, [part_of(row, at) for row in rows])


def joined(rows, names, others, called):
    """Each of the rows with the signs of each of the others that has its signs at the names of both."""
    shared = [place for place, name in enumerate(called) if name in names]
    fresh = [place for place, name in enumerate(called) if name not in names]
    at = [names.index(called[place]) for place in shared]
    ends = {}
    for other in others:
        ends.setdefault(part_of(other, shared), []).append(part_of(other, fresh))
    return [row + end for row in rows for end in ends.get(part_of(row, at), [])]
