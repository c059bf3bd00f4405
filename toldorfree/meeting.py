"""Lots that meet: they have as many classes in common as they can have."""

from toldorfree.checks import power
from toldorfree.classes import class_numbers
from toldorfree.lots import lot_of
from toldorfree.ranks import Ranks, fair_counts
from toldorfree.tables import part_of


def do_meet(table, ranks, one, other):
    """Whether two lots, ascending tuples, of a table with these ranks meet."""
    return max(class_numbers(table, one, other)) + 1 == power(table.signs, ranks.meet_number(one, other))


def meets(table, one, other):
    """Whether the two lots meet."""
    first = lot_of(one, table.columns)
    second = lot_of(other, table.columns)
    return do_meet(table, Ranks(table), first, second)


def open_round(table, one, other):
    """The least round from one to other that does not close, None if there is none."""
    if meets(table, one, other):
        return None
    search = Rounds(table, lot_of(one, table.columns), lot_of(other, table.columns))
    found = None
    start = 0
    # lots that do not meet have an open round
    while found is None:
        found = search.least_from(start)
        start += 1
    return tuple([table.rows[number] for number in found])


class Rounds:
    """The rounds between two lots, ascending tuples; rows are meant by their numbers."""

    def __init__(self, table, one, other):
        self.first = [part_of(row, one) for row in table.rows]
        self.second = [part_of(row, other) for row in table.rows]
        self.alike_first = numbers_by(self.first)
        self.alike_second = numbers_by(self.second)
        self.closing = {pair: True for pair in zip(self.first, self.second)}

    def least_from(self, start):
        """The least open round that begins with the row number start, None if there is none."""
        seen = {}
        for middle in self.alike_first[self.first[start]]:
            # rows alike on the second lot go on to the same rows, so the first of them is enough
            if self.second[middle] not in seen:
                seen[self.second[middle]] = True
                for end in self.alike_second[self.second[middle]]:
                    if (self.first[end], self.second[start]) not in self.closing:
                        return (start, middle, end)
        return None


def numbers_by(parts):
    """The places of each part, by parts."""
    found = {}
    for number, part in enumerate(parts):
        found.setdefault(part, []).append(number)
    return found


def closing_row(table, one, other, first, last):
    """The least row that is alike last on one and alike first on other, None if there is none."""
    early = lot_of(one, table.columns)
    late = lot_of(other, table.columns)
    fair_counts(table)
    table.number_of(first)
    table.number_of(last)
    for row in table.rows:
        if part_of(row, early) == part_of(last, early) and part_of(row, late) == part_of(first, late):
            return row
    return None


def full_classes(table, one, other):
    """Whether in each class every two rows are joined by a row alike the one and alike the other."""
    # this holds exactly if the lots meet, by [63]
    return meets(table, one, other)
