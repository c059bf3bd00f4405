"""Fair tables as codes: signs that are lost, wrong or changed."""

from toldorfree.checks import check_column, is_listed, is_within, power
from toldorfree.circuits import fixed_columns
from toldorfree.errors import BadNumber, BadRow, OtherShape
from toldorfree.farness import least_difference
from toldorfree.lots import lot_of, rest_of
from toldorfree.ranks import Ranks, closed_lots, fair_counts
from toldorfree.tables import Table


def mends(table, lot):
    """Whether the columns that are not lost tell all columns."""
    return ways_left(table, lot) == 1


def ways_left(table, lot):
    """The number of rows that are alike to a row on the columns that are not lost."""
    found = lot_of(lot, table.columns)
    ranks = Ranks(table)
    return power(table.signs, ranks.total - ranks.rank(rest_of(found, table.columns)))


def check_length(table, row):
    """Raise BadRow(-1) unless row is a list or tuple with an entry for each column."""
    if not is_listed(row) or len(row) != table.columns:
        raise BadRow(-1)


def check_entries(table, row):
    """Raise BadRow unless row is a list or tuple of signs, one for each column."""
    check_length(table, row)
    for place, sign in enumerate(row):
        if not is_within(sign, 0, table.signs - 1):
            raise BadRow(place)


def refilled(table, row):
    """The numbers of the rows with the signs of row at the columns where its entry is not None."""
    check_length(table, row)
    for place, sign in enumerate(row):
        if sign is not None and not is_within(sign, 0, table.signs - 1):
            raise BadRow(place)
    fair_counts(table)
    lot = [column for column, sign in enumerate(row) if sign is not None]
    return table.rows_with(lot, [row[column] for column in lot])


def wrong_found(table):
    """How many wrong signs never make another row, None if there is one row."""
    least = least_difference(table)
    return None if least is None else least - 1


def wrong_mended(table):
    """How many wrong signs leave just one nearest row, None if there is one row."""
    found = wrong_found(table)
    return None if found is None else found // 2


def unlike(one, other):
    """At how many columns two rows are unlike."""
    return len(one) - len(Table.alike(one, other))


def nearest(table, row):
    """At how few columns rows of the table are unlike row, and the numbers of these rows."""
    check_entries(table, row)
    fair_counts(table)
    found = [unlike(other, row) for other in table.rows]
    least = min(found)
    return (least, tuple([number for number, far in enumerate(found) if far == least]))


def check_dealt(table, column):
    """Raise NotFair, then OtherShape("fixed") if the column is fixed."""
    if column in fixed_columns(table):
        raise OtherShape("fixed")


def least_changes(table, column):
    """At how few other columns a row with another sign at the column is unlike."""
    check_column(column, table.columns)
    check_dealt(table, column)
    return table.columns - 1 - max([len(lot) for lot in list(closed_lots(table)) if column not in lot])


def changed(table, row, column, sign):
    """The least of the rows with the sign at the column that are unlike row at fewest columns."""
    check_column(column, table.columns)
    if not is_within(sign, 0, table.signs - 1):
        raise BadNumber("sign")
    check_dealt(table, column)
    begin = table.rows[table.number_of(row)]
    found = [other for other in table.rows if other[column] == sign]
    least = min([unlike(begin, other) for other in found])
    return [other for other in found if unlike(begin, other) == least][0]
