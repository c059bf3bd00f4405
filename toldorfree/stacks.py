"""Stacks of tables, one for each sign of a new first column. The tables need not be fair."""

from toldorfree.checks import MOST_COLUMNS, check_sizes, is_listed
from toldorfree.errors import BadNumber, OtherSigns
from toldorfree.fairness import is_fair, view_by
from toldorfree.lots import lots_of
from toldorfree.ranks import Ranks
from toldorfree.tables import Table, check_many, part_of


def check_tables(tables):
    """Raise BadNumber, OtherSigns or OtherColumns unless the tables may be stacked."""
    if not is_listed(tables) or not tables or len(tables) != tables[0].signs:
        raise BadNumber("tables")
    for table in tables:
        if table.signs != tables[0].signs:
            raise OtherSigns(table.signs)
    for table in tables:
        check_sizes(tables[0], table)


def stack(*tables):
    """The table with the number of a table in front of each of its rows."""
    check_tables(tables)
    if tables[0].columns == MOST_COLUMNS:
        raise BadNumber("columns")
    check_many(sum([len(table.rows) for table in tables]))
    return Table(tables[0].signs, [(number,) + row for number, table in enumerate(tables) for row in table.rows])


def is_mixed(tables, lot):
    """Whether the part-rows of the tables on lot are neither all the same nor pairwise without a common one."""
    layers = [[part_of(row, lot) for row in table.rows] for table in tables]
    few = len(set([part for parts in layers for part in parts]))
    many = sum([len(set(parts)) for parts in layers])
    # this asks how the lot sees the new column of the stack, which itself may be too large for a table
    return view_by(few, many, len(tables)) == "neither"


def mixed_lot(tables):
    """The first mixed lot, None if there is none."""
    check_tables(tables)
    for lot in lots_of(tables[0].columns):
        if is_mixed(tables, lot):
            return lot
    return None


def stackable(tables):
    """Whether all tables are fair and have one shape, and no lot is mixed."""
    check_tables(tables)
    if not all([is_fair(table) for table in tables]):
        return False
    shape = Ranks(tables[0])
    return all([Ranks(table) == shape for table in tables]) and mixed_lot(tables) is None
