"""Tables: finite sets of rows of signs."""

from toldorfree.checks import MOST_COLUMNS, MOST_ROWS, MOST_SIGNS, are_signs, check_column, check_columns
from toldorfree.checks import check_signs, is_listed, is_within, power
from toldorfree.errors import BadLot, BadNumber, BadRow, NoRow, OtherColumns, OtherSigns, TooMany
from toldorfree.lots import lot_of, rest_of


def part_of(row, lot):
    """The signs of row at the columns of lot, in the order of lot."""
    return tuple([row[column] for column in lot])


def all_choices(lists):
    """All tuples with one entry of each of the lists, ascending if the lists ascend."""
    found = [()]
    for entries in lists:
        found = [begin + (entry,) for begin in found for entry in entries]
    return found


def all_rows(signs, columns):
    """All rows of so many signs and columns, ascending."""
    return all_choices([list(range(signs))] * columns)


def checked_rows(signs, rows):
    """The rows as a list of tuples; BadRow if they make no table."""
    if not is_listed(rows) or not 1 <= len(rows) <= MOST_ROWS:
        raise BadRow(-1)
    found = {}
    for place, row in enumerate(rows):
        if not are_signs(row, signs) or not 1 <= len(row) <= MOST_COLUMNS or len(row) != len(rows[0]):
            raise BadRow(place)
        if tuple(row) in found:
            raise BadRow(place)
        found[tuple(row)] = True
    return list(found)


def check_many(many):
    """Raise TooMany if a table cannot have so many rows."""
    if many > MOST_ROWS:
        raise TooMany(MOST_ROWS)


class Table:
    """A finite set of rows, all of one length, over the signs 0 to signs - 1."""

    def __init__(self, signs, rows):
        check_signs(signs)
        found = checked_rows(signs, rows)
        self.signs = signs
        self.columns = len(found[0])
        self.rows = tuple(sorted(found))
        self._numbers = {row: number for number, row in enumerate(self.rows)}

    @property
    def many(self):
        """The number of rows."""
        return len(self.rows)

    @classmethod
    def full(cls, signs, columns):
        """The table of all rows."""
        check_signs(signs)
        check_columns(columns)
        check_many(power(signs, columns))
        return cls(signs, all_rows(signs, columns))

    @classmethod
    def parity(cls, signs, columns):
        """The table of the rows whose signs add up to 0 mod signs."""
        check_signs(signs)
        check_columns(columns)
        check_many(power(signs, columns - 1))
        return cls(signs, [row + (-sum(row) % signs,) for row in all_rows(signs, columns - 1)])

    @staticmethod
    def alike(one, other):
        """The lot of the places at which two rows of one length have the same sign."""
        if not is_listed(one):
            raise BadRow(0)
        if not is_listed(other):
            raise BadRow(1)
        if len(one) != len(other):
            raise OtherColumns(len(other))
        return tuple([place for place, sign in enumerate(one) if sign == other[place]])

    def part_rows(self, lot):
        """The part-rows on lot, ascending."""
        found = lot_of(lot, self.columns)
        return tuple(sorted(set([part_of(row, found) for row in self.rows])))

    def rows_with(self, lot, part):
        """The numbers of the rows that have the part-row part on lot."""
        found = lot_of(lot, self.columns)
        if not are_signs(part, self.signs):
            return ()
        wanted = tuple(part)
        return tuple([number for number, row in enumerate(self.rows) if part_of(row, found) == wanted])

    def number_of(self, row):
        """The number of row."""
        if row not in self:
            raise NoRow(row)
        return self._numbers[tuple(row)]

    def part_table(self, lot):
        """The table of the columns of lot alone."""
        found = lot_of(lot, self.columns)
        if not found:
            raise BadLot(-1)
        return Table(self.signs, self.part_rows(found))

    def moved(self, order):
        """The table with the column order[j] of this one at its column j."""
        found = lot_of(order, self.columns)
        if len(found) < self.columns:
            raise BadLot(-1)
        return Table(self.signs, [part_of(row, order) for row in self.rows])

    def with_copy(self, column):
        """The table with one more column, the last one, with the signs of column."""
        check_column(column, self.columns)
        if self.columns == MOST_COLUMNS:
            raise BadNumber("columns")
        return Table(self.signs, [row + (row[column],) for row in self.rows])

    def __add__(self, other):
        if not isinstance(other, Table):
            return NotImplemented
        if other.signs != self.signs:
            raise OtherSigns(other.signs)
        if self.columns + other.columns > MOST_COLUMNS:
            raise BadNumber("columns")
        check_many(len(self.rows) * len(other.rows))
        return Table(self.signs, [one + two for one in self.rows for two in other.rows])

    def __mul__(self, other):
        if not isinstance(other, Table):
            return NotImplemented
        if other.columns != self.columns:
            raise OtherColumns(other.columns)
        if self.signs * other.signs > MOST_SIGNS:
            raise BadNumber("signs")
        check_many(len(self.rows) * len(other.rows))
        return Table(self.signs * other.signs, [
            tuple([high * other.signs + low for high, low in zip(one, two)])
            for one in self.rows for two in other.rows])

    def __sub__(self, other):
        stay = rest_of(other, self.columns)
        if not stay:
            raise BadLot(-1)
        return Table(self.signs, self.part_rows(stay))

    def __contains__(self, x):
        return are_signs(x, self.signs) and tuple(x) in self._numbers

    def __getitem__(self, at):
        if not is_within(at, 0, len(self.rows) - 1):
            raise BadNumber("number")
        return self.rows[at]

    def __eq__(self, other):
        return isinstance(other, Table) and self.signs == other.signs and self.rows == other.rows

    def __len__(self):
        return len(self.rows)

    def __iter__(self):
        return iter(self.rows)
