"""At how many columns rows are alike: counts from rows, and counts from ranks alone."""

from toldorfree.checks import check_signs, power
from toldorfree.errors import BadNumber, NoRow
from toldorfree.lots import is_part, lot_of, lots_of
from toldorfree.ranks import Ranks, fair_counts
from toldorfree.tables import Table


def check_ranks(signs, ranks):
    """Raise BadNumber unless signs is a number of signs and ranks is a Ranks."""
    check_signs(signs)
    if not isinstance(ranks, Ranks):
        raise BadNumber("ranks")


def check_fair_row(table, row):
    """Raise NotFair unless the table is fair, then NoRow unless row is one of its rows."""
    fair_counts(table)
    if row not in table:
        raise NoRow(row)


def spectrum(table, row):
    """How many rows are unlike row at exactly 0, 1, .. columns."""
    check_fair_row(table, row)
    found = [0] * (table.columns + 1)
    for other in table.rows:
        found[table.columns - len(Table.alike(row, other))] += 1
    return tuple(found)


def rank_spectrum(signs, ranks):
    """The spectrum for so many signs that follows from the ranks."""
    check_ranks(signs, ranks)
    found = [0] * (ranks.columns + 1)
    for lot in lots_of(ranks.columns):
        found[ranks.columns - len(lot)] += alike_count(signs, ranks, lot)
    return tuple(found)


def alike_just(table, row, lot):
    """The number of rows that are alike row on just lot."""
    wanted = lot_of(lot, table.columns)
    check_fair_row(table, row)
    return len([other for other in table.rows if Table.alike(row, other) == wanted])


def rank_alike(signs, ranks, lot):
    """The number of rows alike a row on just lot that follows from the ranks."""
    check_ranks(signs, ranks)
    return alike_count(signs, ranks, lot_of(lot, ranks.columns))


def alike_count(signs, ranks, lot):
    """The sum a(signs, lot) over the lots that hold lot; signs may be any integer of at least 1."""
    found = 0
    for larger in lots_of(ranks.columns):
        if is_part(lot, larger):
            worth = power(signs, ranks.total - ranks.rank(larger))
            found += worth if (len(larger) - len(lot)) & 1 == 0 else -worth
    return found
