"""Tables held at signs: their short parts. The tables need not be fair."""

from toldorfree.checks import check_column
from toldorfree.errors import BadLot, BadNumber, NoRow
from toldorfree.lots import lot_of, rest_of
from toldorfree.tables import Table, part_of


def check_more_columns(table):
    """Raise BadNumber("columns") if no column is left when one is held."""
    if table.columns == 1:
        raise BadNumber("columns")


def held(table, column, sign):
    """The table of the rows with the sign at column, without the column."""
    check_column(column, table.columns)
    if not table.rows_with((column,), (sign,)):
        raise BadNumber("sign")
    check_more_columns(table)
    return short_part(table, (column,), (sign,))


def short_part(table, lot, part):
    """The table of the rows with the part-row part on lot, on the other columns."""
    found = lot_of(lot, table.columns)
    rest = rest_of(found, table.columns)
    if not rest:
        raise BadLot(-1)
    numbers = table.rows_with(found, part)
    if not numbers:
        raise NoRow(part)
    return Table(table.signs, [part_of(table.rows[number], rest) for number in numbers])


def stacked_parts(table, column):
    """The tables held at the signs 0, 1, .. of column."""
    check_column(column, table.columns)
    if len(table.part_rows((column,))) < table.signs:
        raise BadNumber("sign")
    check_more_columns(table)
    return tuple([short_part(table, (column,), (sign,)) for sign in range(table.signs)])
