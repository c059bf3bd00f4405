"""Circuits and bases of fair tables, fixed and equal columns."""

from toldorfree.checks import check_column
from toldorfree.errors import BadLot, BadNumber
from toldorfree.fairness import circuits_by
from toldorfree.lots import is_part, lot_of, lots_of
from toldorfree.ranks import Ranks, fair_counts


def circuits_of(table):
    """The circuits, in lot order."""
    return circuits_by(fair_counts(table), table.signs)


def bases_of(table):
    """The bases, ascending."""
    ranks = Ranks(table)
    return tuple([lot for lot in lots_of(table.columns) if is_base(ranks, lot)])


def is_base(ranks, lot):
    """Whether the lot, an ascending tuple, is full and tells all columns."""
    return len(lot) == ranks.total and ranks.rank(lot) == ranks.total


def least_base(table):
    """The first of the bases."""
    return bases_of(table)[0]


def checked_base(table, base):
    """The base as an ascending tuple; its errors, with NotFair before that of no base."""
    lot = lot_of(base, table.columns)
    if not is_base(Ranks(table), lot):
        raise BadLot(-1)
    return lot


def circuit_in(table, base, column):
    """The one circuit that the base and the column hold."""
    lot = lot_of(base, table.columns)
    check_column(column, table.columns)
    checked_base(table, lot)
    if column in lot:
        raise BadNumber("column")
    return circuit_within(circuits_of(table), lot, column)


def circuit_within(circuits, base, column):
    """The first of the circuits that is part of base and column."""
    return [circuit for circuit in circuits if is_part(circuit, base + (column,))][0]


def fixed_columns(table):
    """The lot of the fixed columns."""
    return Ranks(table).told(())


def equal_columns(table):
    """The lots of columns that tell one another, ordered by their least columns."""
    ranks = Ranks(table)
    fixed = ranks.told(())
    found = []
    for column in range(table.columns):
        if column not in fixed:
            lot = tuple([other for other in ranks.told((column,)) if other not in fixed])
            if lot not in found:
                found.append(lot)
    return tuple(found)


def connecting_circuit(table, one, other):
    """The first circuit in lot order that has both columns, None if there is none."""
    check_column(one, table.columns)
    check_column(other, table.columns)
    if one == other:
        raise BadNumber("column")
    for circuit in circuits_of(table):
        if one in circuit and other in circuit:
            return circuit
    return None
