"""The pieces of a table that hangs together, of all sorts."""

from toldorfree.checks import base_below, power
from toldorfree.crossing import products_at
from toldorfree.cuts import splits_of
from toldorfree.groups import Group


class Piece:
    """A parting of all columns into lots, and the table with one column for each of them."""

    SORT = ""

    def __init__(self, table, lots):
        self.table = table
        self.lots = lots

    def inner_lots(self):
        """The lots with two columns or more."""
        return tuple([lot for lot in self.lots if len(lot) >= 2])

    def many_splits(self):
        """The number of splits of the table of the piece."""
        return 0

    def ring_way(self):
        """The order round of the columns of the table, None if there is none."""
        return None

    def group(self, *, base=None):
        """The group read from the table, None if there is none."""
        return None


class SmallPiece(Piece):
    """A piece of one or two lots."""

    SORT = "small"


class EqualPiece(Piece):
    """A piece of equal columns."""

    SORT = "equal"

    def many_splits(self):
        """The number of splits: each cut of the table splits."""
        return splits_of_many(len(self.lots))


class SquarePiece(Piece):
    """A piece whose table is a square."""

    SORT = "square"


class StarPiece(Piece):
    """A piece that is a ring in whatever order, of an abelian group."""

    SORT = "star"

    def many_splits(self):
        """The number of splits: each cut of the table splits."""
        return splits_of_many(len(self.lots))

    def ring_way(self):
        """The least of all orders."""
        return tuple(range(len(self.lots)))

    def group(self, *, base=None):
        """The group read from the table at its row number base."""
        return group_round(self.table, self.ring_way(), base)


class RingPiece(Piece):
    """A piece that is a ring in one order round, of a group that is not abelian."""

    SORT = "ring"

    def many_splits(self):
        """The number of runs of the order round, each of them told by one of its two sides."""
        many = len(self.lots)
        return many * (many - 3) // 2

    def ring_way(self):
        """The order round that begins with 0 and goes on with the lesser one of its neighbours."""
        many = len(self.lots)
        pairs = neighbours(splits_of(self.table), many)
        way = [0]
        while len(way) < many:
            way.append(min([column for column in range(many)
                            if column not in way and (way[-1], column) in pairs]))
        return tuple(way)

    def group(self, *, base=None):
        """The group read from the table, moved into its order round, at the row number base."""
        return group_round(self.table, self.ring_way(), base)


class FirmPiece(Piece):
    """A piece of four lots or more whose table has no split."""

    SORT = "firm"


def splits_of_many(many):
    """The number of lots, up to their rests, with at least two of so many columns on either side."""
    return power(2, many - 1) - 1 - many


def neighbours(splits, many):
    """The pairs of columns, in both orders, that are a side of one of the splits, as a dict of True."""
    found = {}
    for lot in splits:
        for side in (lot, tuple([column for column in range(many) if column not in lot])):
            if len(side) == 2:
                found[side] = True
                found[side[::-1]] = True
    return found


def group_round(table, way, base):
    """The group read from the table moved into the order way, at the row number base."""
    number = base_below(base, len(table.rows))
    return Group(products_at(table.moved(way), number))


def piece_of(table, lots):
    """The piece with these lots, and with their table, of its sort."""
    many = len(lots)
    if many <= 2:
        return SmallPiece(table, lots)
    if len(table.rows) == table.signs:
        return EqualPiece(table, lots)
    if many == 3:
        return SquarePiece(table, lots)
    splits = len(splits_of(table))
    if splits == 0:
        return FirmPiece(table, lots)
    # of the tables of pieces with splits, only that of a star has all that there can be
    if splits == splits_of_many(many):
        return StarPiece(table, lots)
    return RingPiece(table, lots)
