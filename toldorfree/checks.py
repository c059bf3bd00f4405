"""What several modules ask of their arguments, number and count."""

from toldorfree.errors import BadNumber, OtherColumns, OtherSigns

MOST_SIGNS = 36
MOST_COLUMNS = 8
MOST_ROWS = 1300


def is_integer(value):
    """Whether value is an integer; True and False are none here."""
    return isinstance(value, int) and not isinstance(value, bool)


def is_within(value, low, high):
    """Whether value is an integer from low to high."""
    return is_integer(value) and low <= value <= high


def is_count(value):
    """Whether value is an integer of at least 0."""
    return is_integer(value) and value >= 0


def is_listed(value):
    """Whether value is a list or a tuple."""
    return isinstance(value, (list, tuple))


def are_signs(row, signs):
    """Whether row is a list or tuple of integers from 0 to signs - 1."""
    return is_listed(row) and all([is_within(sign, 0, signs - 1) for sign in row])


def is_permutation(names, many):
    """Whether names is a list or tuple that holds each of 0 .. many - 1 once."""
    return are_signs(names, many) and len(names) == many and len(set(names)) == many


def agree_somewhere(one, other):
    """Whether two rows of one length have the same entry at some place."""
    return any([x == y for x, y in zip(one, other)])


def check_signs(signs):
    """Raise BadNumber("signs") unless signs is a possible number of signs."""
    if not is_within(signs, 2, MOST_SIGNS):
        raise BadNumber("signs")


def check_columns(columns):
    """Raise BadNumber("columns") unless columns is a possible number of columns."""
    if not is_within(columns, 1, MOST_COLUMNS):
        raise BadNumber("columns")


def check_column(column, columns):
    """Raise BadNumber("column") unless column is one of so many columns."""
    if not is_within(column, 0, columns - 1):
        raise BadNumber("column")


def base_below(base, many):
    """The number base, 0 for None; BadNumber("base") unless it is None or a number below many."""
    if base is not None and not is_within(base, 0, many - 1):
        raise BadNumber("base")
    return 0 if base is None else base


def check_sizes(one, other):
    """Raise OtherSigns or OtherColumns unless other has the numbers of one."""
    if other.signs != one.signs:
        raise OtherSigns(other.signs)
    if other.columns != one.columns:
        raise OtherColumns(other.columns)


def power(base, exponent):
    """base to the power exponent, an integer of at least 0."""
    found = 1
    for _ in range(exponent):
        found = found * base
    return found


def numbers_of(marks):
    """For each place the number of its mark; the different marks are numbered in the order of their first places."""
    numbers = {}
    for mark in marks:
        numbers.setdefault(mark, len(numbers))
    return tuple([numbers[mark] for mark in marks])
