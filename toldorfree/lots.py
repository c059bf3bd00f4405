"""Lots: sets of columns, written as ascending tuples."""

from toldorfree.checks import check_columns, is_count, is_listed, is_within
from toldorfree.errors import BadLot, BadNumber


def bad_place(lot, many):
    """None if lot holds different numbers below many, else the place that a BadLot names."""
    if not is_listed(lot):
        return -1
    for place, column in enumerate(lot):
        if not is_within(column, 0, many - 1) or column in lot[:place]:
            return place
    return None


def lot_below(lot, many):
    """The lot as an ascending tuple of numbers below many, which may be more than 8."""
    place = bad_place(lot, many)
    if place is not None:
        raise BadLot(place)
    return tuple(sorted(lot))


def is_part(one, other):
    """Whether each column of one is in other."""
    return len([column for column in one if column not in other]) == 0


def lot_key(lot):
    """What orders ascending tuples by lot order."""
    return (len(lot), lot)


def choices_of(many, size):
    """All ascending tuples of size numbers below many, ascending."""
    found = [()]
    for place in range(size):
        # a number is left out if too few would be left for the places behind it
        found = [lot + (number,) for lot in found for number in range(after(lot), many - size + place + 1)]
    return found


def lot_of(lot, columns):
    """The lot as an ascending tuple."""
    check_columns(columns)
    return lot_below(lot, columns)


def rest_of(lot, columns):
    """The lot of the columns that are not in lot."""
    found = lot_of(lot, columns)
    return tuple([column for column in range(columns) if column not in found])


def plus(one, other, columns):
    """The lot of the columns in one or other."""
    first = lot_of(one, columns)
    second = lot_of(other, columns)
    return tuple([column for column in range(columns) if column in first or column in second])


def common(one, other, columns):
    """The lot of the columns in one and other."""
    first = lot_of(one, columns)
    second = lot_of(other, columns)
    return tuple([column for column in first if column in second])


def minus(one, other, columns):
    """The lot of the columns in one but not in other."""
    first = lot_of(one, columns)
    second = lot_of(other, columns)
    return tuple([column for column in first if column not in second])


def lots_of(columns, *, most=None):
    """All lots of at most most columns (None: all lots), in lot order."""
    check_columns(columns)
    if most is not None and not is_count(most):
        raise BadNumber("most")
    found = [()]
    size = 0
    while found and (most is None or size <= most):
        yield from found
        # a larger column behind lots in lot order gives the next size in lot order
        found = [lot + (column,) for lot in found for column in range(after(lot), columns)]
        size += 1


def after(lot):
    """The least number that is greater than all columns of the lot."""
    return lot[-1] + 1 if lot else 0
