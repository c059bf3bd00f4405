"""Inner tables and coarse tables of rings, by subgroups of their groups."""

from toldorfree.checks import base_below, is_within, numbers_of, power
from toldorfree.crossing import elements_at
from toldorfree.errors import BadLot, BadNumber, OtherShape
from toldorfree.lots import lot_below
from toldorfree.reading import read_group
from toldorfree.rings import is_ring


def inner_count(group, columns, size):
    """The number of inner tables of this size of the ring table of group with so many columns."""
    if not is_within(columns, 3, 8):
        raise BadNumber("columns")
    if not is_within(size, 2, group.size):
        raise BadNumber("size")
    return len(of_size(group.subgroups(), size)) * power(group.size // size, columns - 1)


def coarse_count(group, size):
    """The number of normal subgroups of this size."""
    if not is_within(size, 2, group.size - 1):
        raise BadNumber("size")
    return len(of_size(group.normal_subgroups(), size))


def of_size(lots, size):
    """Those of the lots that have so many elements."""
    return [lot for lot in lots if len(lot) == size]


def signs_read(table, number):
    """The element of each sign at each column of a ring; at the last column the signs are the elements."""
    return elements_at(table, number) + (tuple(range(table.signs)),)


def checked_group(table, number):
    """The group of a ring in its order, read at the row number number; its errors."""
    if not is_ring(table):
        raise OtherShape("ring")
    return read_group(table, base=number)


def check_subgroup(group, lot):
    """Raise BadLot(-1) unless lot is a subgroup of more than one element."""
    if len(lot) < 2 or group.generated(lot) != lot:
        raise BadLot(-1)


def subgroup_signs(table, lot, *, base=None):
    """The chosen signs of the inner table that comes of the subgroup lot."""
    found = lot_below(lot, table.signs)
    number = base_below(base, len(table.rows))
    check_subgroup(checked_group(table, number), found)
    return tuple([tuple([sign for sign, element in enumerate(entry) if element in found])
                  for entry in signs_read(table, number)])


def normal_blocks(table, lot, *, base=None):
    """The blocks that come of the normal subgroup lot."""
    found = lot_below(lot, table.signs)
    number = base_below(base, len(table.rows))
    group = checked_group(table, number)
    check_subgroup(group, found)
    if len(found) == group.size or not group.is_normal(found):
        raise BadLot(-1)
    # two elements are in one block if they have the same products with those of the subgroup
    marks = [min([group.times(one, other) for other in found]) for one in range(group.size)]
    return tuple([numbers_of([marks[element] for element in entry]) for entry in signs_read(table, number)])
