"""Inner tables: fair tables of the same shape on a few signs of each column."""

from math import comb

from toldorfree.checks import are_signs, is_listed, is_within, power
from toldorfree.circuits import least_base
from toldorfree.errors import BadBlocks, BadNumber, OtherShape, TooMany
from toldorfree.fairness import told_by
from toldorfree.lots import choices_of
from toldorfree.ranks import Ranks, fair_counts
from toldorfree.tables import Table, all_choices, part_of

MOST_CHOICES = 5000


def check_choices(ways, rank):
    """Raise TooMany if so many ways at each column of a base are too many to try."""
    if power(ways, rank) > MOST_CHOICES:
        raise TooMany(MOST_CHOICES)


def checked_chosen(table, chosen):
    """The chosen signs as ascending tuples; BadBlocks if they are none, then NotFair."""
    if not is_listed(chosen) or len(chosen) != table.columns:
        raise BadBlocks(-1)
    fixed = told_by(table, ())
    loose = [column for column in range(table.columns) if column not in fixed]
    for column, entry in enumerate(chosen):
        if not are_signs(entry, table.signs) or len(set(entry)) < len(entry):
            raise BadBlocks(column)
        if column in fixed:
            right = tuple(entry) == (table.rows[0][column],)
        else:
            right = len(entry) >= 2 and len(entry) == len(chosen[loose[0]])
        if not right:
            raise BadBlocks(column)
    fair_counts(table)
    return tuple([tuple(sorted(entry)) for entry in chosen])


def has_chosen(row, chosen):
    """Whether the row has only chosen signs."""
    return all([sign in entry for sign, entry in zip(row, chosen)])


def rows_chosen(table, chosen):
    """The numbers of the rows that have only chosen signs."""
    return tuple([number for number, row in enumerate(table.rows) if has_chosen(row, chosen)])


def size_of(chosen):
    """How many signs are chosen at a column that is not fixed; 1 if all columns are fixed."""
    return max([len(entry) for entry in chosen])


def makes_inner(table, chosen):
    """Whether there are as many chosen rows as there can be."""
    return len(rows_chosen(table, chosen)) == power(size_of(chosen), Ranks(table).total)


def chosen_rows(table, chosen):
    """The numbers of the chosen rows."""
    return rows_chosen(table, checked_chosen(table, chosen))


def is_inner(table, chosen):
    """Whether the chosen signs make an inner table."""
    return makes_inner(table, checked_chosen(table, chosen))


def relabelled(table, chosen):
    """The table of the chosen rows, with the place of each sign among the chosen ones."""
    found = checked_chosen(table, chosen)
    if not makes_inner(table, found):
        raise OtherShape("inner")
    size = size_of(found)
    rows = [table.rows[number] for number in rows_chosen(table, found)]
    return Table(size if size > 1 else table.signs,
                 [tuple([entry.index(sign) for entry, sign in zip(found, row)]) for row in rows])


def check_size(table, size):
    """Raise BadNumber("size") unless size is a possible size of chosen signs."""
    if not is_within(size, 2, table.signs):
        raise BadNumber("size")


def inner_tables(table, size):
    """The chosen signs of all inner tables of this size, ascending."""
    check_size(table, size)
    base = least_base(table)
    check_choices(comb(table.signs, size), len(base))
    rows = {part_of(row, base): row for row in table.rows}
    fixed = told_by(table, ())
    # the columns of the least base that stand before another column tell it, so the results ascend as they do
    for choice in all_choices([choices_of(table.signs, size) for _ in base]):
        found = signs_beside(rows, choice, fixed, size)
        if found is not None:
            yield found


def signs_beside(rows, choice, fixed, size):
    """The signs at all columns of the rows with signs of the choice at a base; None if they make no inner table.

    The rows are given by their part-rows on the base.
    """
    chosen = [rows[part] for part in all_choices(choice)]
    found = []
    for column in range(len(chosen[0])):
        signs = tuple(sorted(set([row[column] for row in chosen])))
        if column not in fixed and len(signs) != size:
            return None
        found.append(signs)
    return tuple(found)


def inner_through(table, size, row):
    """The number of the inner tables of this size that have row among their rows."""
    check_size(table, size)
    fair_counts(table)
    table.number_of(row)
    return len([chosen for chosen in inner_tables(table, size) if has_chosen(row, chosen)])
