"""Cuts of tables that hang together, and the cuts that split."""

from toldorfree.checks import numbers_of
from toldorfree.classes import class_numbers
from toldorfree.errors import NotCut, NotSplit, NotWhole
from toldorfree.lots import common, lot_of, lots_of, minus, plus, rest_of
from toldorfree.meeting import do_meet
from toldorfree.partings import column_parting
from toldorfree.ranks import Ranks, hanging_parts


def whole_ranks(table):
    """The ranks of a table that hangs together; NotFair, then NotWhole for another one."""
    ranks = Ranks(table)
    parts = hanging_parts(table)
    if len(parts) > 1:
        raise NotWhole(parts[0])
    return ranks


def is_side(ranks, lot):
    """Whether the lot, an ascending tuple, is a side of a cut."""
    rest = rest_of(lot, ranks.columns)
    return len(lot) >= 2 and len(rest) >= 2 and ranks.meet_number(lot, rest) == 1


def cuts_by(ranks):
    """The sides with column 0 of all cuts, in lot order."""
    return [lot for lot in lots_of(ranks.columns) if 0 in lot and is_side(ranks, lot)]


def splits_at(table, ranks, lot):
    """Whether the cut with this side splits."""
    return do_meet(table, ranks, lot, rest_of(lot, table.columns))


def cuts_of(table):
    """All cuts, each by its side with column 0, in lot order."""
    return tuple(cuts_by(whole_ranks(table)))


def splits_of(table):
    """All splits, each by its side with column 0, in lot order."""
    ranks = whole_ranks(table)
    return tuple([lot for lot in cuts_by(ranks) if splits_at(table, ranks, lot)])


def strong_splits(table):
    """The splits that no split crosses, each by its side with column 0, in lot order."""
    splits = splits_of(table)
    return tuple([lot for lot in splits if not any([crosses(lot, other, table.columns) for other in splits])])


def is_split(table, lot):
    """Whether the cut with the side lot splits."""
    found = lot_of(lot, table.columns)
    ranks = whole_ranks(table)
    if not is_side(ranks, found):
        raise NotCut(found)
    return splits_at(table, ranks, found)


def split_classes(table, lot):
    """The classes of the two sides of a split; NotCut or NotSplit if the lot is no side of one."""
    if not is_split(table, lot):
        raise NotSplit(lot)
    return class_numbers(table, lot, rest_of(lot, table.columns))


def class_column(table, lot):
    """The class column of a split, of a single column or of all columns but one."""
    found = lot_of(lot, table.columns)
    whole_ranks(table)
    for side in (found, rest_of(found, table.columns)):
        if len(side) == 1:
            return numbers_of(column_parting(table, side[0]))
    return split_classes(table, found)


def crosses(one, other, columns):
    """Whether the two lots cut each other and their rests."""
    quarters = (minus(one, other, columns), common(one, other, columns), minus(other, one, columns),
                rest_of(plus(one, other, columns), columns))
    return all([len(quarter) > 0 for quarter in quarters])
