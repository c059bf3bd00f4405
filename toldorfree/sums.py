"""Sums of three rows, and all Latin cubes of a size."""

from toldorfree.checks import agree_somewhere, check_signs, is_within
from toldorfree.errors import BadNumber, TooMany
from toldorfree.tables import Table, all_rows

MOST_CUBES = 600


def is_sum_closed(table):
    """Whether the table holds x - y + z, sign by sign, for all its rows x, y, z."""
    first = table.rows[0]
    steps = {row_minus(row, first, table.signs): True for row in table.rows}
    # x - y + z stays in the table exactly if the differences from its first row are a group
    reached = {row_minus(first, first, table.signs): True}
    for step in steps:
        if step not in reached:
            reached = with_multiples(list(reached), step, table.signs)
            if not all([row in steps for row in reached]):
                return False
    return True


def row_minus(one, other, signs):
    """The row of the differences of two rows."""
    return tuple([(x - y) % signs for x, y in zip(one, other)])


def with_multiples(rows, step, signs):
    """The rows with each multiple of the step added, as a dict of True."""
    found = {}
    for times in range(signs):
        for row in rows:
            found[tuple([(x + times * y) % signs for x, y in zip(row, step)])] = True
    return found


def cubes_of(signs, columns):
    """All Latin cubes of so many signs and columns, ascending by their rows."""
    check_signs(signs)
    if not is_within(columns, 1, 5):
        raise BadNumber("columns")
    cubes = [(sign,) for sign in range(signs)]
    for _ in range(columns - 1):
        # a cube of one column more is a cube for each sign at its first column, no two with a common row
        larger = []
        pile_layers(signs, cubes, (), larger)
        cubes = larger
    begins = all_rows(signs, columns - 1)
    return tuple([Table(signs, [begin + (sign,) for begin, sign in zip(begins, cube)]) for cube in cubes])


def pile_layers(layers, cubes, below, found):
    """Put all larger cubes into found that have the signs of below and so many layers more above.

    A cube is written as its last signs, so cubes with a common row are those that agree somewhere.
    """
    if layers == 0:
        if len(found) == MOST_CUBES:
            raise TooMany(MOST_CUBES)
        found.append(below)
        return
    for cube in cubes:
        rest = [other for other in cubes if not agree_somewhere(other, cube)]
        pile_layers(layers - 1, rest, below + cube, found)
