"""Lots that see the classes of two lots evenly."""

from toldorfree.classes import class_numbers
from toldorfree.fairness import count_parts
from toldorfree.lots import is_part, lot_of, lots_of, plus
from toldorfree.ranks import Ranks, fair_counts
from toldorfree.tables import part_of


def seen_evenly(table, one, other, lot):
    """Whether in each class each part-row of the table on lot belongs to equally many rows."""
    first = lot_of(one, table.columns)
    second = lot_of(other, table.columns)
    seeing = lot_of(lot, table.columns)
    fair_counts(table)
    numbers = class_numbers(table, first, second)
    counts = {}
    for number, row in zip(numbers, table.rows):
        key = (number, part_of(row, seeing))
        counts[key] = counts.get(key, 0) + 1
    many = count_parts(table, seeing)
    return all([counts[number, part] * many == numbers.count(number) for number, part in counts])


def free_within(table, one, other):
    """The least lot in one that has the rank by which one is more than other, and beside other, too."""
    first = lot_of(one, table.columns)
    second = lot_of(other, table.columns)
    ranks = Ranks(table)
    goal = ranks.rank(plus(first, second, table.columns))
    # a lot of fewer columns cannot bring the rank of other so high, so the first lot that does is one of them
    return [lot for lot in lots_of(table.columns)
            if is_part(lot, first) and ranks.rank(plus(lot, second, table.columns)) == goal][0]
