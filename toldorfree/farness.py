"""How far apart the rows of a fair table are."""

from toldorfree.checks import is_within
from toldorfree.errors import BadNumber
from toldorfree.ranks import closed_lots
from toldorfree.spectra import spectrum


def greatest_closed(table):
    """The closed lots that are not ALL and have as many columns as possible, in lot order."""
    closed = [lot for lot in closed_lots(table) if len(lot) < table.columns]
    most = max([len(lot) for lot in closed], default=0)
    return [lot for lot in closed if len(lot) == most]


def least_difference(table):
    """The least number of columns at which two rows are unlike, None if there is one row."""
    lot = farthest_closed(table)
    return None if lot is None else table.columns - len(lot)


def farthest_closed(table):
    """The least of the closed lots with most columns that are not ALL, None if there is one row."""
    found = greatest_closed(table)
    # a table of one row has no closed lot but ALL
    return found[0] if found else None


def pairs_at(table, number):
    """The number of pairs of rows, in no order, that are unlike at exactly so many columns."""
    if not is_within(number, 0, 8):
        raise BadNumber("number")
    counts = spectrum(table, table.rows[0])
    if not 1 <= number <= table.columns:
        return 0
    return len(table.rows) * counts[number] // 2
