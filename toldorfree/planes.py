"""Tables of four points with a seventh column, and tables of lines."""

from toldorfree.checks import is_within
from toldorfree.errors import BadGroup, BadNumber
from toldorfree.fairness import is_fair, tells
from toldorfree.fourpoints import four_point_table, is_four_points
from toldorfree.opposite import OPPOSITE
from toldorfree.partings import put_in
from toldorfree.tables import Table, all_rows

# over four signs: y, 2.y and 3.y for each y
FOUR_TIMES = ((0, 1, 2, 3), (0, 2, 3, 1), (0, 3, 1, 2))


def plane_table(group):
    """The four-point table of a group with exponent two, with one more column."""
    if not group.has_exponent_two():
        raise BadGroup(-1)
    return with_seventh(group)


def short_plane_table(group):
    """The four-point table of an abelian group of odd size, with one more column."""
    if not group.is_abelian() or group.size % 2 == 0:
        raise BadGroup(-1)
    return with_seventh(group)


def with_seventh(group):
    """The four-point table with the quotients of the elements at the first and the last edge."""
    table = four_point_table(group)
    return put_in(table, [group.times(group.inverse(row[0]), row[5]) for row in table.rows])


def extends_four_points(table):
    """Whether the table is fair and has one column more than the shape of four points on its first six."""
    return table.columns == 7 and is_fair(table) and is_four_points(table - (6,))


def is_plane(table):
    """Whether any table has the seven-point shape."""
    if not extends_four_points(table) or not all([tells(table, pair, 6) for pair in OPPOSITE]):
        return False
    return not any([tells(table, (column,), 6) for column in range(6)])


def is_short_plane(table):
    """Whether any table has the short shape."""
    return extends_four_points(table) and [tells(table, pair, 6) for pair in OPPOSITE] == [True, True, False]


def line_table(signs):
    """The table of the rows (x, y, x + y, x + 2*y, ..)."""
    if not is_within(signs, 2, 7) or signs == 6:
        raise BadNumber("signs")
    return Table(signs, [line_row(signs, x, y) for x, y in all_rows(signs, 2)])


def line_row(signs, x, y):
    """The row of x and y; over 4 signs bits are added and multiples are those of four elements."""
    if signs == 4:
        return (x, y) + tuple([x ^ times[y] for times in FOUR_TIMES])
    return (x, y) + tuple([(x + k * y) % signs for k in range(1, signs)])
