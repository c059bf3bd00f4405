"""What breaks a table that is not fair, and tests of fairness by few lots."""

from toldorfree.checks import are_signs, check_column, is_count
from toldorfree.errors import BadNumber
from toldorfree.fairness import circuits_by, part_counts, power_of, unfair_circuit, view_by
from toldorfree.lots import bad_place, is_part
from toldorfree.tables import part_of


def table_circuits(table):
    """All circuits of any table, in lot order."""
    return circuits_by(part_counts(table), table.signs)


class Break:
    """A circuit, a tuple of signs that misses on it, and two rows unlike at one column of it."""

    def __init__(self, lot, missing, one, other):
        self.lot = lot
        self.missing = missing
        self.one = one
        self.other = other


def find_break(table):
    """The break at the first circuit that is no Latin cube, None if the table is fair."""
    lot = unfair_circuit(part_counts(table), table.signs)
    if lot is None:
        return None
    one, other = least_pair(table, lot)
    return Break(lot, least_missing(table, lot), one, other)


def least_missing(table, lot):
    """The least tuple of signs that is not a part-row on the lacking lot."""
    parts = table.part_rows(lot)
    codes = [code_of(part, table.signs) for part in parts]
    # the codes ascend, so the first one that is not its place comes behind the least missing one
    code = len([place for place, found in enumerate(codes) if found == place])
    missing = ()
    for _ in lot:
        code, sign = divmod(code, table.signs)
        missing = (sign,) + missing
    return missing


def code_of(part, signs):
    """The place of the tuple part among all tuples of signs of its length."""
    code = 0
    for sign in part:
        code = code * signs + sign
    return code


def least_pair(table, lot):
    """The least pair of rows that are unlike at exactly one column of the circuit lot."""
    groups = rows_by_parts(table, lot)
    for row in table.rows:
        partners = [number for column in lot for number in groups[key_without(row, lot, column)]
                    if table.rows[number][column] != row[column]]
        if partners:
            # no earlier row has a partner, so all of these come behind
            return (row, table.rows[min(partners)])
    return None


def rows_by_parts(table, lot):
    """The numbers of the rows by their part-rows on lot without each one of its columns."""
    groups = {}
    for number, row in enumerate(table.rows):
        for column in lot:
            groups.setdefault(key_without(row, lot, column), []).append(number)
    return groups


def key_without(row, lot, column):
    """What rows that are alike on lot without column have in common."""
    return (column, part_of(row, [place for place in lot if place != column]))


def is_break(table, found):
    """Whether found is a Break that holds a break of the table."""
    if not isinstance(found, Break) or bad_place(found.lot, table.columns) is not None:
        return False
    lot = tuple(sorted(found.lot))
    if lot not in table_circuits(table):
        return False
    if not are_signs(found.missing, table.signs) or len(found.missing) != len(lot):
        return False
    if tuple(found.missing) in table.part_rows(lot):
        return False
    if found.one not in table or found.other not in table:
        return False
    return len([column for column in lot if found.one[column] != found.other[column]]) == 1


def fair_up_to(table, most):
    """Whether the counts of rows, and of part-rows on lots of at most most columns, are powers."""
    if not is_count(most):
        raise BadNumber("most")
    counts = part_counts(table)
    numbers = [counts[lot] for lot in counts if len(lot) <= most]
    numbers.append(len(table.rows))
    return all([power_of(number, table.signs) is not None for number in numbers])


def views_of(table, column):
    """How each lot of the other columns sees column: a dict by lots, in lot order."""
    check_column(column, table.columns)
    counts = part_counts(table)
    views = {}
    for lot in counts:
        if column not in lot:
            both = tuple(sorted(lot + (column,)))
            views[lot] = view_by(counts[lot], counts[both], table.signs)
    return views


def seen_by_all(table, column):
    """Whether each lot of the other columns tells column or leaves it free."""
    views = views_of(table, column)
    return all([views[lot] != "neither" for lot in views])


def least_tellers(table, column):
    """The lots without column that tell it and hold no smaller such lot, in lot order."""
    return least_telling(views_of(table, column))


def least_telling(views):
    """The lots that tell and hold no smaller lot that does, given how each lot sees something."""
    found = []
    for lot in views:
        if views[lot] == "tells" and not any([is_part(teller, lot) for teller in found]):
            found.append(lot)
    return tuple(found)


def needed_for(table, column):
    """The lot of the columns in least tellers of column."""
    tellers = least_tellers(table, column)
    return tuple([other for other in range(table.columns) if any([other in teller for teller in tellers])])
