"""Tables with the shape of the complete graph on four points: six columns for its edges."""

from toldorfree.checks import base_below, power
from toldorfree.crossing import elements_at, products_at
from toldorfree.errors import OtherShape
from toldorfree.fairness import is_fair
from toldorfree.groups import Group
from toldorfree.lots import lots_of
from toldorfree.ranks import Ranks
from toldorfree.reading import check_few_signs
from toldorfree.squares import check_square, closes
from toldorfree.tables import Table, all_rows, check_many, part_of

# the two points of each column
EDGES = ((0, 1), (0, 2), (0, 3), (1, 2), (1, 3), (2, 3))
TRIANGLES = ((0, 1, 3), (0, 2, 4), (1, 2, 5), (3, 4, 5))
ROUNDS = ((0, 3, 5, 2), (0, 4, 5, 1), (1, 3, 4, 2))
# the columns 01, 12, 02
SQUARE = (0, 3, 1)


def four_point_table(group):
    """The table of the quotients of four elements of the group."""
    check_many(power(group.size, 3))
    return Table(group.size, [four_point_row(group, ends) for ends in all_rows(group.size, 3)])


def four_point_row(group, ends):
    """The quotients of the unit and the three elements of ends."""
    # only quotients count, so the first element may be the unit
    points = (group.unit,) + ends
    return tuple([group.times(group.inverse(points[one]), points[other]) for one, other in EDGES])


def rank_of_edges(lot):
    """4 less the number of parts in which the edges of the lot lay the four points."""
    parts = [0, 1, 2, 3]
    for column in lot:
        one, other = EDGES[column]
        joined = parts[one]
        left = parts[other]
        parts = [joined if part == left else part for part in parts]
    return 4 - len(set(parts))


def has_shape(ranks):
    """Whether these are the ranks of four points."""
    return ranks.columns == 6 and all([ranks.rank(lot) == rank_of_edges(lot) for lot in list(lots_of(6))])


def is_four_points(table):
    """Whether any table has the shape of four points."""
    return is_fair(table) and has_shape(Ranks(table))


def check_four_points(table):
    """Raise NotFair, then OtherShape("fourpoints") unless the table has the shape of four points."""
    if not has_shape(Ranks(table)):
        raise OtherShape("fourpoints")


def table_round(table, order):
    """The part table on these columns, in this order."""
    lot = sorted(order)
    return table.part_table(lot).moved([lot.index(column) for column in order])


def four_point_group(table, *, base=None):
    """The group of the table, read at the row number base."""
    number = base_below(base, len(table.rows))
    check_four_points(table)
    square = table_round(table, SQUARE)
    return Group(products_at(square, square.number_of(part_of(table.rows[number], SQUARE))))


def fits_in(square):
    """A table of the shape of four points with this square, None if the square does not close."""
    check_square(square)
    check_few_signs(square.signs)
    if not closes(square):
        return None
    check_many(power(square.signs, 3))
    products = products_at(square, 0)
    first, second = elements_at(square, 0)
    rows = []
    for early, middle, late in square.rows:
        y = second[middle]
        both = products[first[early]][y]
        rows.extend([(early, late, products[both][z], middle, products[y][z], z) for z in range(square.signs)])
    return Table(square.signs, rows)


def triangles(table):
    """The part tables on the triangles."""
    check_four_points(table)
    return tuple([table_round(table, order) for order in TRIANGLES])


def rounds_of_edges(table):
    """The part tables on the rounds of edges, in their orders round."""
    check_four_points(table)
    return tuple([table_round(table, order) for order in ROUNDS])
