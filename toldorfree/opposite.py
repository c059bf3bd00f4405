"""What opposite edges of four points have in common."""

from toldorfree.checks import is_within
from toldorfree.classes import classes
from toldorfree.errors import BadNumber
from toldorfree.fourpoints import check_four_points
from toldorfree.meeting import meets
from toldorfree.partings import put_in
from toldorfree.putting import goes_in

OPPOSITE = ((0, 5), (1, 4), (2, 3))


def check_pairs(table, first, second):
    """Raise BadNumber unless these are two opposite pairs, then NotFair or OtherShape for a wrong table."""
    if not is_within(first, 0, 2):
        raise BadNumber("first")
    if not is_within(second, 0, 2) or second == first:
        raise BadNumber("second")
    check_four_points(table)


def opposite_meet(table, first, second):
    """Whether two opposite pairs meet."""
    check_pairs(table, first, second)
    return meets(table, OPPOSITE[first], OPPOSITE[second])


def opposite_column(table, first, second):
    """The classes of two opposite pairs, None if they do not meet."""
    if not opposite_meet(table, first, second):
        return None
    return classes(table, OPPOSITE[first], OPPOSITE[second])


def seventh(table, first, second):
    """The table with the opposite column of two pairs put in, None if there is none or it does not go in."""
    column = opposite_column(table, first, second)
    if column is None or not goes_in(table, column):
        return None
    return put_in(table, column)


def halves_alike(table):
    """Whether each two opposite pairs meet and all three opposite columns are equal."""
    found = [opposite_column(table, first, second) for first, second in ((0, 1), (0, 2), (1, 2))]
    return None not in found and found[0] == found[1] == found[2]
