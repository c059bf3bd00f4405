"""Partings: a sign for each row of a table."""

from toldorfree.breaks import least_telling
from toldorfree.checks import MOST_COLUMNS, check_column, is_integer, is_listed, is_within, numbers_of
from toldorfree.errors import BadNumber, BadParting
from toldorfree.fairness import part_codes, view_by
from toldorfree.lots import lot_of
from toldorfree.ranks import fair_counts
from toldorfree.tables import Table, part_of


def check_parting(table, parting):
    """Raise BadParting unless parting has a sign for each row of the table."""
    if not is_listed(parting) or len(parting) != len(table.rows):
        raise BadParting(-1)
    for place, sign in enumerate(parting):
        if not is_within(sign, 0, table.signs - 1):
            raise BadParting(place)


def parting_views(table, parting):
    """How each lot sees the parting, as it sees a column: a dict by lots, in lot order."""
    codes = part_codes(table)
    views = {}
    for lot in codes:
        few = len(set(codes[lot]))
        many = len(set([code * table.signs + sign for code, sign in zip(codes[lot], parting)]))
        views[lot] = view_by(few, many, table.signs)
    return views


def numbered(parting):
    """The integers with 0, 1, .. in the place of the different ones, in the order of their first places."""
    if not is_listed(parting):
        raise BadParting(-1)
    for place, sign in enumerate(parting):
        if not is_integer(sign):
            raise BadParting(place)
    return numbers_of(parting)


def with_partings(table, partings):
    """The table with one more column for each of the partings, which have been checked."""
    if table.columns + len(partings) > MOST_COLUMNS:
        raise BadNumber("columns")
    return Table(table.signs, [row + tuple([parting[number] for parting in partings])
                               for number, row in enumerate(table.rows)])


def put_in(table, parting):
    """The table with one more column, the last one, that has the signs of the parting."""
    check_parting(table, parting)
    return with_partings(table, [parting])


def column_parting(table, column):
    """The parting of the column."""
    check_column(column, table.columns)
    return tuple([row[column] for row in table.rows])


def tells_parting(table, lot, parting):
    """Whether rows that are alike on lot have the same sign in the parting."""
    found = lot_of(lot, table.columns)
    check_parting(table, parting)
    parts = [part_of(row, found) for row in table.rows]
    return len(set(parts)) == len(set(list(zip(parts, parting))))


def least_lots(table, parting):
    """The lots that tell the parting while none of their smaller lots does, in lot order."""
    check_parting(table, parting)
    fair_counts(table)
    return least_telling(parting_views(table, parting))
