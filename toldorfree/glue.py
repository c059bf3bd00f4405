"""Two fair tables glued along a column of each, and splits undone to such tables."""

from toldorfree.checks import MOST_COLUMNS, check_column, is_permutation, is_within
from toldorfree.cuts import split_classes
from toldorfree.errors import BadNames, BadNumber, Loose, OtherSigns
from toldorfree.lots import lot_of, rest_of
from toldorfree.ranks import Ranks
from toldorfree.tables import Table, check_many, part_of


def check_tight(ranks, column):
    """Raise Loose if the column is fixed, or not told by the other columns."""
    others = rest_of((column,), ranks.columns)
    if ranks.rank((column,)) == 0 or ranks.rank(others) < ranks.total:
        raise Loose(column)


def glued(one, column, other, second, *, names=None):
    """The rows of one and of other side by side where names lead the sign at column to the sign at second."""
    check_column(column, one.columns)
    if not is_within(second, 0, other.columns - 1):
        raise BadNumber("second")
    if names is not None and not is_permutation(names, one.signs):
        raise BadNames(-1)
    if other.signs != one.signs:
        raise OtherSigns(other.signs)
    ranks = Ranks(one)
    late_ranks = Ranks(other)
    check_tight(ranks, column)
    check_tight(late_ranks, second)
    if one.columns + other.columns - 2 > MOST_COLUMNS:
        raise BadNumber("columns")
    check_many(len(one.rows) * len(other.rows) // one.signs)
    called = list(range(one.signs)) if names is None else names
    ends = ends_by(other, second)
    return Table(one.signs, [row[:column] + row[column + 1:] + end
                             for row in one.rows for end in ends[called[row[column]]]])


def ends_by(table, column):
    """The rows without the column, by their signs at it."""
    found = {}
    for row in table.rows:
        found.setdefault(row[column], []).append(row[:column] + row[column + 1:])
    return found


def unglued(table, lot):
    """The tables on the two sides of the split lot, each with the class column as its last one."""
    found = lot_of(lot, table.columns)
    numbers = split_classes(table, found)
    return (side_table(table, found, numbers), side_table(table, rest_of(found, table.columns), numbers))


def side_table(table, lot, numbers):
    """The table of the columns of lot and of the numbers of the rows."""
    rows = {part_of(row, lot) + (number,): True for row, number in zip(table.rows, numbers)}
    return Table(table.signs, list(rows))
