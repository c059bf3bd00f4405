"""Rings: circuit tables in which each last sign is the product of the other signs, in one order of the columns."""

from toldorfree.checks import base_below
from toldorfree.crossing import elements_at
from toldorfree.cuts import splits_at
from toldorfree.errors import OtherShape
from toldorfree.ranks import Ranks, fair_counts
from toldorfree.reading import check_circuit, check_few_signs, read_group
from toldorfree.trees import tree_of


def is_ring(table):
    """Whether the table is a ring in its order."""
    group = read_group(table)
    if group is None:
        return False
    named = elements_at(table, 0)
    return all([group.product_of([entry[sign] for entry, sign in zip(named, row)]) == row[-1] for row in table.rows])


def ring_order(table):
    """The least order of the columns in which the table is a ring, None if there is none."""
    check_circuit(table)
    if table.columns == 3:
        # a square is a ring in each order or in none
        return (0, 1, 2) if is_ring(table) else None
    tree = tree_of(table)
    return tree[0].ring_way() if len(tree) == 1 else None


def ring_group(table, *, base=None):
    """The group read from the table in its least ring order, None if there is none."""
    number = base_below(base, len(table.rows))
    order = ring_order(table)
    return None if order is None else read_group(table.moved(order), base=number)


def neighbours_split(table):
    """Whether each two columns that follow one another, without the last column, are a side of a split."""
    check_circuit(table)
    if table.columns == 3:
        raise OtherShape("circuit")
    ranks = Ranks(table)
    return all([splits_at(table, ranks, (column, column + 1)) for column in range(table.columns - 2)])


def same_ring(one, other):
    """Whether both tables are rings in their orders, of as many columns and signs, and of isomorphic groups."""
    for table in (one, other):
        fair_counts(table)
    for table in (one, other):
        check_circuit(table)
    for table in (one, other):
        check_few_signs(table.signs)
    if one.columns != other.columns or not (is_ring(one) and is_ring(other)):
        return False
    return read_group(one).isomorphism_to(read_group(other)) is not None
