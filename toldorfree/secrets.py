"""Fair tables as secrets: lots that open a column, and what other lots see of it."""

from toldorfree.breaks import least_tellers, needed_for
from toldorfree.checks import check_column, is_within
from toldorfree.errors import BadLot, BadNumber, NoRow, OtherShape
from toldorfree.lots import lot_of, plus
from toldorfree.ranks import Ranks


def checked_ranks(table, dealt, lot):
    """The ranks; NotFair, OtherShape("fixed") if a dealt column is fixed, BadLot(-1) if one is in the lot."""
    ranks = Ranks(table)
    fixed = ranks.told(())
    if any([column in fixed for column in dealt]):
        raise OtherShape("fixed")
    if any([column in lot for column in dealt]):
        raise BadLot(-1)
    return ranks


def opens(table, column, lot):
    """Whether the lot opens the column."""
    check_column(column, table.columns)
    found = lot_of(lot, table.columns)
    return column in checked_ranks(table, (column,), found).told(found)


def openers(table, column):
    """The lots that open the column and hold no smaller lot that does, in lot order."""
    check_column(column, table.columns)
    checked_ranks(table, (column,), ())
    return least_tellers(table, column)


def needed(table, column):
    """The lot of the columns in openers of the column."""
    check_column(column, table.columns)
    checked_ranks(table, (column,), ())
    return needed_for(table, column)


def rows_seen(table, lot, part):
    """The numbers of the rows with the part-row part on lot; NoRow if there are none."""
    found = table.rows_with(lot, part)
    if not found:
        raise NoRow(part)
    return found


def what_seen(table, column, lot, part):
    """For each sign the number of rows with the part-row part on lot and this sign at the column."""
    check_column(column, table.columns)
    found = lot_of(lot, table.columns)
    checked_ranks(table, (column,), found)
    signs = [table.rows[number][column] for number in rows_seen(table, found, part)]
    return tuple([signs.count(sign) for sign in range(table.signs)])


def links(table, lot, first, second):
    """Which of two columns the lot opens, or whether it links them."""
    found = lot_of(lot, table.columns)
    if not is_within(first, 0, table.columns - 1):
        raise BadNumber("first")
    if not is_within(second, 0, table.columns - 1) or second == first:
        raise BadNumber("second")
    ranks = checked_ranks(table, (first, second), found)
    told = ranks.told(found)
    if first in told:
        return "both" if second in told else "first"
    if second in told:
        return "second"
    return "linked" if ranks.rank(plus(found, (first, second), table.columns)) == ranks.rank(found) + 1 else "none"


def link_names(table, lot, part, first, second):
    """The permutation that leads first to second beside the part-row part, None if the lot does not link them."""
    word = links(table, lot, first, second)
    numbers = rows_seen(table, lot, part)
    if word != "linked":
        return None
    names = {table.rows[number][first]: table.rows[number][second] for number in numbers}
    return tuple([names[sign] for sign in range(table.signs)])
