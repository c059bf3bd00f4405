"""Renamings: a permutation of the signs for each column."""

from toldorfree.checks import MOST_COLUMNS, MOST_SIGNS, are_signs, check_columns, check_signs, check_sizes
from toldorfree.checks import is_listed, is_permutation, is_within
from toldorfree.errors import BadNames, BadNumber, BadRow
from toldorfree.tables import Table


def check_names(names):
    """Raise BadNames unless names has one permutation of the same signs for each column."""
    if not is_listed(names) or not 1 <= len(names) <= MOST_COLUMNS:
        raise BadNames(-1)
    for column, entry in enumerate(names):
        if not is_listed(entry) or not 2 <= len(entry) <= MOST_SIGNS or not is_permutation(entry, len(names[0])):
            raise BadNames(column)


def renamed_row(names, row):
    """The row with each sign turned by the names of its column."""
    return tuple([names[column][sign] for column, sign in enumerate(row)])


def names_after(late, early):
    """The names that do early first and then late."""
    return tuple([tuple([then[sign] for sign in first]) for then, first in zip(late, early)])


def undone(permutation):
    """The permutation that undoes this one."""
    places = {sign: place for place, sign in enumerate(permutation)}
    return tuple([places[sign] for sign in range(len(permutation))])


class Renaming:
    """What turns the sign s at the column c into names[c][s]."""

    def __init__(self, names):
        check_names(names)
        self.names = tuple([tuple(entry) for entry in names])
        self.signs = len(self.names[0])
        self.columns = len(self.names)

    @classmethod
    def same(cls, signs, columns):
        """The renaming that changes nothing."""
        check_signs(signs)
        check_columns(columns)
        return cls([tuple(range(signs))] * columns)

    def __call__(self, row):
        if not are_signs(row, self.signs) or len(row) != self.columns:
            raise BadRow(-1)
        return renamed_row(self.names, row)

    def __getitem__(self, at):
        if not is_within(at, 0, self.columns - 1):
            raise BadNumber("column")
        return self.names[at]

    def __iter__(self):
        return iter(self.names)

    def __mul__(self, other):
        if not isinstance(other, Renaming):
            return NotImplemented
        check_sizes(self, other)
        return Renaming(names_after(self.names, other.names))

    def __invert__(self):
        return Renaming([undone(entry) for entry in self.names])

    def __eq__(self, other):
        return isinstance(other, Renaming) and self.names == other.names


def renamed(table, renaming):
    """The table of the renamed rows."""
    check_sizes(table, renaming)
    return Table(table.signs, [renamed_row(renaming.names, row) for row in table.rows])
