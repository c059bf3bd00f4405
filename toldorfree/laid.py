"""Tables laid by groups, tables made from groups, and bent tables."""

from toldorfree.checks import MOST_COLUMNS, MOST_ROWS, are_signs, is_listed, is_within, power
from toldorfree.errors import BadGroup, BadLot, BadNumber, BadRow, TooMany
from toldorfree.groups import Group
from toldorfree.lots import bad_place
from toldorfree.tables import Table, all_rows, check_many


def check_groups(groups, size):
    """Raise BadGroup(place) for the first entry that is no Group of this size."""
    for place, group in enumerate(groups):
        if not isinstance(group, Group) or group.size != size:
            raise BadGroup(place)


def row_times(groups, one, other):
    """The row of the products of two rows."""
    return tuple([group.products[x][y] for group, x, y in zip(groups, one, other)])


def laid_rows(groups, rows, most):
    """The rows of the laid table of rows, None if there are more than most of them."""
    back = tuple([group.inverse(sign) for group, sign in zip(groups, rows[0])])
    # a table is laid exactly if its rows times the inverse of one of them are a group
    found = group_of([row_times(groups, row, back) for row in rows], groups, most)
    return None if found is None else [row_times(groups, step, rows[0]) for step in found]


def group_of(steps, groups, most):
    """The least group of rows that holds the steps, None if it has more than most rows."""
    makers = []
    found = reached_by(makers, groups, most)
    for step in steps:
        if step not in found:
            makers.append(step)
            found = reached_by(makers, groups, most)
            if found is None:
                return None
    return list(found)


def reached_by(makers, groups, most):
    """The products of makers, as a dict of True; None if there are more than most of them."""
    queue = [tuple([group.unit for group in groups])]
    found = {queue[0]: True}
    at = 0
    while at < len(queue):
        for maker in makers:
            product = row_times(groups, queue[at], maker)
            if product not in found:
                found[product] = True
                queue.append(product)
        if len(queue) > most:
            return None
        at += 1
    return found


def is_laid(table, groups):
    """Whether the table holds x * inverse(y) * z, sign by sign, for all its rows x, y, z."""
    if not is_listed(groups) or len(groups) != table.columns:
        raise BadGroup(-1)
    check_groups(groups, table.signs)
    return laid_rows(groups, table.rows, len(table.rows)) is not None


def check_laid_rows(groups, rows):
    """Raise BadRow unless rows are different rows of one element of each of the groups."""
    if not is_listed(rows) or not 1 <= len(rows) <= MOST_ROWS:
        raise BadRow(-1)
    seen = {}
    for place, row in enumerate(rows):
        if not are_signs(row, groups[0].size) or len(row) != len(groups) or tuple(row) in seen:
            raise BadRow(place)
        seen[tuple(row)] = True


def laid_table(groups, rows):
    """The laid table with the least set of rows that holds the rows."""
    if not is_listed(groups) or not 1 <= len(groups) <= MOST_COLUMNS:
        raise BadGroup(-1)
    check_first_group(groups)
    check_laid_rows(groups, rows)
    found = laid_rows(groups, rows, MOST_ROWS)
    if found is None:
        raise TooMany(MOST_ROWS)
    return Table(groups[0].size, found)


def check_first_group(groups):
    """Raise BadGroup(place) for the first entry that is no Group of the size of the first one."""
    if not isinstance(groups[0], Group):
        raise BadGroup(0)
    check_groups(groups, groups[0].size)


def square_of(group):
    """The table of the rows (x, y, x*y)."""
    return Table(group.size, [(x, y, group.times(x, y)) for x, y in all_rows(group.size, 2)])


def ring_table(group, columns):
    """The table of the rows of so many elements whose product is the unit."""
    if not is_within(columns, 2, MOST_COLUMNS):
        raise BadNumber("columns")
    check_many(power(group.size, columns - 1))
    return Table(group.size, [row + (group.inverse(group.product_of(row)),)
                              for row in all_rows(group.size, columns - 1)])


def bent_table(columns, lots):
    """The table over 4 signs that is bent by the lots."""
    if not is_within(columns, 3, 6):
        raise BadNumber("columns")
    if not is_listed(lots):
        raise BadLot(-1)
    for place, lot in enumerate(lots):
        if bad_place(lot, columns - 1) is not None:
            raise BadLot(place)
    return Table(4, [row + (last_bent(row, lots),) for row in all_rows(4, columns - 1)])


def last_bent(row, lots):
    """The last sign of the row of a bent table that begins with the signs of row."""
    high = [sign // 2 for sign in row]
    low = [sign % 2 for sign in row]
    # the product of high parts is 1 if all of them are
    bends = [lot for lot in lots if all([high[column] == 1 for column in lot])]
    return sum(high) % 2 * 2 + (sum(low) + len(bends)) % 2
