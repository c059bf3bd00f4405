"""Ranks of the lots of a fair table. From here on tables are fair."""

from toldorfree.errors import NotFair
from toldorfree.fairness import part_counts, power_of, unfair_circuit
from toldorfree.lots import common, lot_of, lots_of, plus, rest_of


def fair_counts(table):
    """The number of part-rows on each lot of a fair table; NotFair for another one."""
    counts = part_counts(table)
    circuit = unfair_circuit(counts, table.signs)
    if circuit is not None:
        raise NotFair(circuit)
    return counts


class Ranks:
    """The ranks of all lots of a fair table: its shape."""

    def __init__(self, table):
        counts = fair_counts(table)
        self.signs = table.signs
        self.columns = table.columns
        self._ranks = {lot: power_of(counts[lot], table.signs) for lot in counts}
        self.total = self._ranks[tuple(range(table.columns))]

    def rank(self, lot):
        """The e such that there are signs to the power e part-rows on lot."""
        return self._ranks[lot_of(lot, self.columns)]

    def told(self, lot):
        """The lot of all columns that lot tells."""
        found = lot_of(lot, self.columns)
        rank = self._ranks[found]
        return tuple([column for column in range(self.columns)
                      if self._ranks[plus(found, (column,), self.columns)] == rank])

    def is_closed(self, lot):
        """Whether lot tells its own columns alone."""
        return self.told(lot) == lot_of(lot, self.columns)

    def meet_number(self, one, other):
        """rank(one) + rank(other) - rank(one + other)."""
        return self.rank(one) + self.rank(other) - self.rank(plus(one, other, self.columns))

    def is_modular(self, one, other):
        """Whether the meet number is the rank of what both lots tell."""
        shared = common(self.told(one), self.told(other), self.columns)
        return self.meet_number(one, other) == self._ranks[shared]

    def __eq__(self, other):
        return isinstance(other, Ranks) and self._ranks == other._ranks


def closed_lots(table):
    """The closed lots, in lot order."""
    ranks = Ranks(table)
    for lot in lots_of(table.columns):
        if ranks.is_closed(lot):
            yield lot


def hanging_parts(table):
    """The finest parting of all columns in lots whose ranks add up to the total."""
    ranks = Ranks(table)
    loose = [lot for lot in lots_of(table.columns)
             if ranks.rank(lot) + ranks.rank(rest_of(lot, table.columns)) == ranks.total]
    # of the lots with a column that can stand alone, the part of the column is the first one
    found = [[lot for lot in loose if column in lot][0] for column in range(table.columns)]
    return tuple([lot for column, lot in enumerate(found) if lot[0] == column])


def hangs_together(table):
    """Whether there is one hanging part."""
    return len(hanging_parts(table)) == 1
