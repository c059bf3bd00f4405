"""Squares: the ways of their signs, their corners, and the groups that they come of."""

from toldorfree.checks import is_within
from toldorfree.errors import BadGroup, BadNumber, OtherShape
from toldorfree.fairness import is_latin
from toldorfree.naming import undone
from toldorfree.ranks import fair_counts
from toldorfree.reading import read_group
from toldorfree.tables import all_rows


def check_square(table):
    """Raise NotFair, then OtherShape("square") unless the table is a square."""
    fair_counts(table)
    if table.columns != 3 or not is_latin(table):
        raise OtherShape("square")


def ways(table):
    """The way of each sign: what stands at column 2 beside it and the signs 0, 1, .. of column 1."""
    check_square(table)
    return lines_of(table)


def lines_of(table):
    """The ways of a square."""
    many = table.signs
    return tuple([tuple([row[2] for row in table.rows[sign * many:(sign + 1) * many]]) for sign in range(many)])


def corner_way(lines, first, second, third):
    """The way that does the way of third, then that of second backwards, then that of first."""
    back = undone(lines[second])
    return tuple([lines[first][back[sign]] for sign in lines[third]])


def closes(table):
    """Whether each three signs have a corner."""
    return open_corner(table) is None


def open_corner(table):
    """The least triple of signs without a corner, None if the square closes."""
    lines = ways(table)
    known = {line: True for line in lines}
    # if any triple has no corner, some triple that begins with 0 has none
    for second, third in all_rows(table.signs, 2):
        if corner_way(lines, 0, second, third) not in known:
            return (0, second, third)
    return None


def corner(table, first, second, third):
    """The corner of three signs, None if there is none."""
    for sign in (first, second, third):
        if not is_within(sign, 0, table.signs - 1):
            raise BadNumber("sign")
    lines = ways(table)
    found = corner_way(lines, first, second, third)
    return lines.index(found) if found in lines else None


def comes_of(table, group):
    """Whether the square is equal up to names to that of the group."""
    if group.size != table.signs:
        raise BadGroup(group.size)
    check_square(table)
    found = read_group(table)
    return found is not None and found.isomorphism_to(group) is not None


def turns_alike(table):
    """Whether the square closes and each corner is the same when the first and the last sign are exchanged."""
    if not closes(table):
        return False
    lines = lines_of(table)
    return all([corner_way(lines, first, second, third) == corner_way(lines, third, second, first)
                for first, second in all_rows(table.signs, 2) for third in range(first)])
