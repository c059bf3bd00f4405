"""Whether a parting of a fair table goes in as a new column."""

from toldorfree.classes import class_numbers, classes
from toldorfree.errors import OtherShape
from toldorfree.lots import is_part, lot_of
from toldorfree.meeting import numbers_by
from toldorfree.partings import check_parting, parting_views
from toldorfree.ranks import Ranks, closed_lots, fair_counts
from toldorfree.tables import part_of


def goes_in(table, parting):
    """Whether the table with the parting is fair."""
    check_parting(table, parting)
    fair_counts(table)
    return is_seen(table, parting)


def is_seen(table, parting):
    """Whether each lot tells the parting or leaves it free."""
    views = parting_views(table, parting)
    return all([views[lot] != "neither" for lot in views])


def greatest_silent(table, parting):
    """The closed lots that do not tell the parting and are in no larger such lot, in lot order."""
    check_parting(table, parting)
    closed = list(closed_lots(table))
    views = parting_views(table, parting)
    silent = [lot for lot in closed if views[lot] != "tells"]
    return tuple([lot for lot in silent if not any([lot != other and is_part(lot, other) for other in silent])])


def why_not(table, parting):
    """None if the parting goes in, else the first lot that neither tells it nor leaves it free, and what shows it."""
    check_parting(table, parting)
    fair_counts(table)
    views = parting_views(table, parting)
    for lot in views:
        if views[lot] == "neither":
            return (lot,) + least_gap_beside(table, lot, parting) + least_pair_beside(table, lot, parting)
    return None


def least_gap_beside(table, lot, parting):
    """The least part-row on lot, and the least sign of the parting, that do not stand beside one another."""
    beside = {}
    for row, sign in zip(table.rows, parting):
        beside.setdefault(part_of(row, lot), {})[sign] = True
    least = min([part for part in beside if len(beside[part]) < table.signs])
    return (least, min([sign for sign in range(table.signs) if sign not in beside[least]]))


def least_pair_beside(table, lot, parting):
    """The least pair of numbers of rows that are alike on lot and have different signs in the parting."""
    alike = numbers_by([part_of(row, lot) for row in table.rows])
    pairs = []
    for part in alike:
        # the first row of a part comes first in its least pair
        one = alike[part][0]
        pairs.extend([(one, other) for other in alike[part] if parting[other] != parting[one]][:1])
    return min(pairs)


def class_parting(table, one, other):
    """The classes of the two lots as a parting."""
    numbers = classes(table, one, other)
    if max(numbers) >= table.signs:
        raise OtherShape("classes")
    return numbers


def meeting_column(table, one, other):
    """The classes of the two lots if their meet number is 1, they meet and this parting goes in, None otherwise."""
    first = lot_of(one, table.columns)
    second = lot_of(other, table.columns)
    ranks = Ranks(table)
    if ranks.meet_number(first, second) != 1:
        return None
    numbers = class_numbers(table, first, second)
    if max(numbers) + 1 != table.signs or not is_seen(table, numbers):
        return None
    return numbers
