"""Tables whose signs are pairs of signs. The tables need not be fair."""

from toldorfree.checks import is_within
from toldorfree.errors import BadNumber
from toldorfree.tables import Table


def unpaired(table, low):
    """The table of the quotients of all signs by low, and the table of the remainders."""
    if not is_within(low, 2, table.signs // 2) or table.signs % low != 0:
        raise BadNumber("low")
    first = {tuple([sign // low for sign in row]): True for row in table.rows}
    second = {tuple([sign % low for sign in row]): True for row in table.rows}
    return (Table(table.signs // low, list(first)), Table(low, list(second)))


def is_paired(table, low):
    """Whether the table is its quotients paired with its remainders."""
    first, second = unpaired(table, low)
    # all rows of the table are rows of the paired one, which itself may be too large for a table
    return len(first.rows) * len(second.rows) == len(table.rows)
