"""Classes of rows that steps lead to: alike on one lot, or alike on another one."""

from toldorfree.checks import numbers_of, power
from toldorfree.lots import lot_of
from toldorfree.ranks import Ranks, fair_counts
from toldorfree.tables import part_of


def class_numbers(table, one, other):
    """The number of the class of each row, for two lots that are ascending tuples."""
    sides = [[part_of(row, lot) for row in table.rows] for lot in (one, other)]
    least = list(range(len(table.rows)))
    before = []
    # a mark is the number of the least row that was reached; in the end rows of one class have one mark
    while least != before:
        before = least
        for parts in sides:
            least = least_marks(parts, least)
    return numbers_of(least)


def least_marks(parts, marks):
    """For each place the least of the marks at the places with the same part."""
    found = {}
    for part, mark in zip(parts, marks):
        found[part] = min(mark, found.get(part, mark))
    return [found[part] for part in parts]


def classes(table, one, other):
    """The number of the class of each row, in the order of the rows."""
    first = lot_of(one, table.columns)
    second = lot_of(other, table.columns)
    fair_counts(table)
    return class_numbers(table, first, second)


def class_count(table, one, other):
    """The number of classes."""
    return max(classes(table, one, other)) + 1


def class_shares(table, one, other):
    """The share of each class: by how much it is larger than the classes of lots that meet."""
    numbers = classes(table, one, other)
    ranks = Ranks(table)
    unit = power(table.signs, ranks.total - ranks.meet_number(one, other))
    return tuple([numbers.count(number) // unit for number in range(max(numbers) + 1)])
