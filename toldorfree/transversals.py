"""Transversals of tables of rank 2: rows of which each two are unlike at each column that is not fixed."""

from toldorfree.checks import agree_somewhere
from toldorfree.errors import OtherShape, TooMany
from toldorfree.ranks import Ranks

MOST_ROWS_HERE = 36
MOST_PARTINGS = 2000


def loose_rows(table):
    """The rows of a table of rank 2 without the fixed columns; the errors of this module."""
    ranks = Ranks(table)
    if ranks.total != 2:
        raise OtherShape("rank")
    if len(table.rows) > MOST_ROWS_HERE:
        raise TooMany(MOST_ROWS_HERE)
    fixed = ranks.told(())
    return [[sign for column, sign in enumerate(row) if column not in fixed] for row in table.rows]


def transversals(table):
    """All transversals, ascending."""
    rows = loose_rows(table)
    found = [()]
    for sign in range(table.signs):
        # the signs at the first column that is not fixed ascend with the rows, and a transversal has each one once
        found = [begin + (number,) for begin in found for number, row in enumerate(rows)
                 if row[0] == sign and not any([agree_somewhere(row, rows[earlier]) for earlier in begin])]
    return tuple(found)


def partings_by_transversals(table):
    """All numbered partings by transversals, ascending."""
    found = []
    extend_parting(transversals(table), [None] * len(table.rows), 0, found)
    return tuple(sorted(found))


def extend_parting(choices, signs, sign, found):
    """Put all partings into found that go on from signs, None where a row has none yet, with this sign and more."""
    if None not in signs:
        if len(found) == MOST_PARTINGS:
            raise TooMany(MOST_PARTINGS)
        found.append(tuple(signs))
        return
    # the first row without a sign gets the next one, so the partings are numbered
    start = signs.index(None)
    for rows in choices:
        if rows[0] == start and all([signs[row] is None for row in rows]):
            extend_parting(choices, with_sign(signs, rows, sign), sign + 1, found)


def with_sign(signs, rows, sign):
    """The signs with this sign at the rows."""
    return [sign if number in rows else before for number, before in enumerate(signs)]
