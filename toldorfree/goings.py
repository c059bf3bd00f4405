"""All partings that go into a small fair table, and tables with several partings."""

from toldorfree.checks import is_listed, numbers_of
from toldorfree.circuits import least_base
from toldorfree.errors import BadParting, TooMany
from toldorfree.lots import lot_of
from toldorfree.partings import check_parting, column_parting, tells_parting, with_partings
from toldorfree.ranks import Ranks
from toldorfree.tables import all_rows
from toldorfree.transversals import partings_by_transversals

MOST_ROWS_GOING = 27


def goings(table):
    """All numbered partings that go in, ascending."""
    rank = Ranks(table).total
    if len(table.rows) > MOST_ROWS_GOING:
        raise TooMany(MOST_ROWS_GOING)
    if table.signs <= 3:
        return in_order(weighted_sums(table))
    # with more signs and so few rows the rank is at most 2, and [84] and [85] tell all partings
    found = [column_parting(table, column) for column in range(table.columns)]
    found.append((0,) * len(table.rows))
    return in_order(found + (list(partings_by_transversals(table)) if rank == 2 else []))


def in_order(partings):
    """The different partings, numbered, ascending."""
    return tuple(sorted(set([numbers_of(parting) for parting in partings])))


def weighted_sums(table):
    """The sums of the signs at a base with all weights: for 2 and 3 signs just these go in, up to names."""
    base = least_base(table)
    return [tuple([sum([weight * row[column] for weight, column in zip(weights, base)]) % table.signs
                   for row in table.rows]) for weights in all_rows(table.signs, len(base))]


def goings_with(table, lot):
    """The partings of goings(table) that the lot tells."""
    found = lot_of(lot, table.columns)
    return tuple([parting for parting in goings(table) if tells_parting(table, found, parting)])


def put_all(table, partings):
    """The table with one more column for each of the partings, in their order."""
    if not is_listed(partings):
        raise BadParting(-1)
    for parting in partings:
        check_parting(table, parting)
    return with_partings(table, partings)
