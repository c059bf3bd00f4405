"""Several rows at once."""

from toldorfree.checks import is_within, power
from toldorfree.errors import BadNumber, TooMany
from toldorfree.lots import common, lot_of
from toldorfree.spectra import alike_count, check_fair_row, check_ranks
from toldorfree.tables import Table

MOST_TUPLES = 20000


def check_together(many):
    """Raise BadNumber("many") unless many is a possible number of rows at once."""
    if not is_within(many, 0, 12):
        raise BadNumber("many")


def tuples_just(table, row, lot, many):
    """The number of tuples of many rows that are all alike row on just lot."""
    wanted = lot_of(lot, table.columns)
    check_together(many)
    check_fair_row(table, row)
    if power(len(table.rows), many) > MOST_TUPLES:
        raise TooMany(MOST_TUPLES)
    # tuples that are alike row on the same lot go on alike, so they are counted lot by lot
    counts = {tuple(range(table.columns)): 1}
    for _ in range(many):
        counts = longer_counts(table, row, counts)
    return counts.get(wanted, 0)


def longer_counts(table, row, counts):
    """The counts of tuples with one row more by their lots, from those counts of shorter tuples."""
    found = {}
    for other in table.rows:
        alike = Table.alike(row, other)
        for lot in counts:
            both = common(lot, alike, table.columns)
            found[both] = found.get(both, 0) + counts[lot]
    return found


def rank_tuples(signs, ranks, lot, many):
    """The number of tuples of many rows alike a row on just lot that follows from the ranks."""
    check_ranks(signs, ranks)
    wanted = lot_of(lot, ranks.columns)
    check_together(many)
    return alike_count(power(signs, many), ranks, wanted)


def least_many(signs, ranks):
    """The least number of rows that, by the ranks, leave just the columns of rank 0 alike."""
    check_ranks(signs, ranks)
    fixed = ranks.told(())
    many = 0
    while alike_count(power(signs, many), ranks, fixed) == 0:
        many += 1
    return many
