"""How far apart fair tables of one shape are."""

from toldorfree.checks import check_sizes, is_count, is_listed, power
from toldorfree.circuits import circuits_of
from toldorfree.errors import BadRow, OtherShape
from toldorfree.fairness import is_fair
from toldorfree.ranks import Ranks
from toldorfree.tables import Table


def rows_apart(one, other):
    """How many rows of one are not rows of other."""
    check_sizes(one, other)
    return len([row for row in one.rows if row not in other])


def gap_of(circuit, signs, total):
    """The gap of the circuit of a table of this total rank."""
    rank = len(circuit) - 1
    return power(signs, total - rank) * power(2, rank)


def gap_bound(one, other):
    """The greatest gap of the circuits on which the part tables are unlike, 0 if there are none."""
    check_sizes(one, other)
    ranks = Ranks(one)
    if not ranks == Ranks(other):
        raise OtherShape("shape")
    unlike = [circuit for circuit in circuits_of(one) if one.part_rows(circuit) != other.part_rows(circuit)]
    return max([gap_of(circuit, one.signs, ranks.total) for circuit in unlike], default=0)


def least_gap(table):
    """The gap of a circuit with most columns, the number of rows if there is no circuit."""
    circuits = circuits_of(table)
    return min([gap_of(circuit, table.signs, Ranks(table).total) for circuit in circuits], default=len(table.rows))


def near_one(rows, tables):
    """The number of the first table that differs from rows in fewer than its least gap rows, or None."""
    found = checked_near_rows(rows)
    check_near_tables(tables)
    for number, table in enumerate(tables):
        common_rows = len([row for row in found if row in table])
        if len(found) + len(table.rows) - 2 * common_rows < least_gap(table):
            return number
    return None


def checked_near_rows(rows):
    """The rows as a list of tuples; they need not be of one length."""
    if not is_listed(rows):
        raise BadRow(-1)
    found = {}
    for place, row in enumerate(rows):
        if not is_listed(row) or not all([is_count(sign) for sign in row]) or tuple(row) in found:
            raise BadRow(place)
        found[tuple(row)] = True
    return list(found)


def check_near_tables(tables):
    """Raise BadRow unless all tables are fair and have the shape and the signs of the first one."""
    if not is_listed(tables):
        raise BadRow(-1)
    for place, table in enumerate(tables):
        if not isinstance(table, Table) or not is_fair(table):
            raise BadRow(place)
        if table.signs != tables[0].signs or not Ranks(table) == Ranks(tables[0]):
            raise BadRow(place)
