"""Two splits that cross, and the group that is read from four columns that stand for their quarters."""

from toldorfree.checks import base_below
from toldorfree.classes import class_numbers
from toldorfree.cuts import crosses, is_split
from toldorfree.errors import NotSplit, OtherShape
from toldorfree.groups import Group
from toldorfree.lots import common, lot_of, minus, plus, rest_of
from toldorfree.naming import undone
from toldorfree.partings import column_parting
from toldorfree.tables import Table


def quarters(one, other, columns):
    """The four lots into which two lots that cross part all columns, in their order round."""
    if not crosses(one, other, columns):
        raise OtherShape("crossing")
    return (minus(one, other, columns), common(one, other, columns), minus(other, one, columns),
            rest_of(plus(one, other, columns), columns))


def third(one, other, columns):
    """The lot of the columns that are in just one of two lots."""
    return plus(minus(one, other, columns), minus(other, one, columns), columns)


def marks_of(table, lot):
    """For each row its sign, for a lot of one column, or the number of its class in the class column of the lot."""
    if len(lot) == 1:
        return column_parting(table, lot[0])
    return class_numbers(table, lot, rest_of(lot, table.columns))


def table_on(table, lots):
    """The table with one column for each of the lots: single columns and sides of splits."""
    marks = [marks_of(table, lot) for lot in lots]
    return Table(table.signs, list({row: True for row in zip(*marks)}))


def quarter_table(table, one, other):
    """The table with one column for each quarter of two splits that cross."""
    first = lot_of(one, table.columns)
    second = lot_of(other, table.columns)
    for lot in (first, second):
        if not is_split(table, lot):
            raise NotSplit(lot)
    return table_on(table, quarters(first, second, table.columns))


def is_equal_kind(found):
    """Whether a quarter table has equal columns; otherwise a group stands in it."""
    return len(found.rows) == found.signs


def crossing_kind(table, one, other):
    """The kind of two splits that cross: "equal" or "group"."""
    return "equal" if is_equal_kind(quarter_table(table, one, other)) else "group"


def crossing_group(table, one, other, *, base=None):
    """The group that is read from the quarter table of two splits that cross."""
    found = quarter_table(table, one, other)
    if is_equal_kind(found):
        raise OtherShape("group")
    return Group(products_at(found, base_below(base, len(found.rows))))


def last_signs(table):
    """The last sign of each row, by its other signs."""
    return {row[:-1]: row[-1] for row in table.rows}


def elements_at(table, number):
    """The element of each sign at each column but the last, by the row number number of a circuit table."""
    lasts = last_signs(table)
    begin = table.rows[number][:-1]
    return tuple([tuple([lasts[begin[:column] + (sign,) + begin[column + 1:]] for sign in range(table.signs)])
                  for column in range(len(begin))])


def products_at(table, number):
    """The table of the read product by the row number number of a circuit table."""
    lasts = last_signs(table)
    named = elements_at(table, number)
    end = table.rows[number][2:-1]
    return tuple([tuple([lasts[(one, other) + end] for other in undone(named[1])]) for one in undone(named[0])])
