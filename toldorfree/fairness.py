"""Whether lots tell columns or leave them free, and whether a table is fair."""

from toldorfree.checks import check_column, is_integer, power
from toldorfree.errors import BadNumber
from toldorfree.lots import is_part, lot_of, lots_of
from toldorfree.tables import part_of


def count_parts(table, lot):
    """The number of part-rows on lot, whose columns may stand in any order."""
    return len(set([part_of(row, lot) for row in table.rows]))


def part_codes(table):
    """For each lot an integer for each row, equal for rows that are alike on it: a dict by lots, in lot order."""
    codes = {}
    for lot in lots_of(table.columns):
        if lot:
            # made of the integers for the lot without its last column
            codes[lot] = [code * table.signs + row[lot[-1]] for code, row in zip(codes[lot[:-1]], table.rows)]
        else:
            codes[lot] = [0] * len(table.rows)
    return codes


def part_counts(table):
    """The number of part-rows on each lot: a dict by lots, in lot order."""
    codes = part_codes(table)
    return {lot: len(set(codes[lot])) for lot in codes}


def circuits_by(counts, signs):
    """The circuits, in lot order, of a table with these counts of part-rows."""
    found = []
    for lot in counts:
        if counts[lot] < power(signs, len(lot)) and not any([is_part(circuit, lot) for circuit in found]):
            found.append(lot)
    return tuple(found)


def unfair_circuit(counts, signs):
    """The first circuit that is no Latin cube, by the counts of part-rows; None if there is none."""
    for circuit in circuits_by(counts, signs):
        if counts[circuit] != power(signs, len(circuit) - 1):
            return circuit
    return None


def view_by(few, many, signs):
    """How a lot with few part-rows sees a further column, with which it has many."""
    if many == few:
        return "tells"
    return "free" if many == few * signs else "neither"


def sees(table, lot, column):
    """Whether lot "tells" column, leaves it "free" or does "neither"."""
    found = lot_of(lot, table.columns)
    check_column(column, table.columns)
    if column in found:
        return "tells"
    return view_by(count_parts(table, found), count_parts(table, found + (column,)), table.signs)


def tells(table, lot, column):
    """Whether lot tells column."""
    return sees(table, lot, column) == "tells"


def leaves_free(table, lot, column):
    """Whether lot leaves column free."""
    return sees(table, lot, column) == "free"


def told_by(table, lot):
    """The lot of all columns that lot tells."""
    found = lot_of(lot, table.columns)
    return tuple([column for column in range(table.columns) if tells(table, found, column)])


def is_full(table, lot):
    """Whether all tuples of signs are part-rows on lot."""
    found = lot_of(lot, table.columns)
    return count_parts(table, found) == power(table.signs, len(found))


def is_fair(table):
    """Whether each lot tells or leaves free each column."""
    return unfair_circuit(part_counts(table), table.signs) is None


def is_latin(table):
    """Whether the table is a Latin cube."""
    if len(table.rows) != power(table.signs, table.columns - 1):
        return False
    return all([is_full(table, lot) for lot in list(lots_of(table.columns)) if len(lot) == table.columns - 1])


def power_of(number, base):
    """The integer e with base to the power e = number, None if there is none."""
    if not is_integer(number):
        raise BadNumber("number")
    if not is_integer(base) or base < 2:
        raise BadNumber("base")
    if number < 1:
        return None
    exponent = 0
    rest = number
    while rest > 1:
        rest, left = divmod(rest, base)
        if left != 0:
            return None
        exponent += 1
    return exponent
