"""Foursomes: four rows in a round, alike on one lot and on another one by turns."""

from toldorfree.checks import power
from toldorfree.lots import lot_of, plus
from toldorfree.ranks import Ranks
from toldorfree.spectra import check_ranks
from toldorfree.tables import part_of


def foursomes(table, one, other):
    """The number of foursomes of the two lots."""
    first = lot_of(one, table.columns)
    second = lot_of(other, table.columns)
    ranks = Ranks(table)
    pairs = {(part_of(row, first), part_of(row, second)): True for row in table.rows}
    # each pair of part-rows stands in equally many rows, so the foursomes of pairs are enough
    alike = power(table.signs, ranks.total - ranks.rank(plus(first, second, table.columns)))
    return pair_foursomes(list(pairs)) * power(alike, 4)


def pair_foursomes(pairs):
    """The number of tuples of four pairs that have their first, second, first and second part in common by turns."""
    behind = {}
    before = {}
    for early, late in pairs:
        behind.setdefault(early, []).append(late)
        before.setdefault(late, []).append(early)
    found = 0
    for early in behind:
        joins = {}
        for late in behind[early]:
            for end in before[late]:
                joins[end] = joins.get(end, 0) + 1
        found += sum([joins[end] * joins[end] for end in joins])
    return found


def most_foursomes(signs, ranks, one, other):
    """The number of foursomes for so many signs that follows from the ranks if the lots meet."""
    check_ranks(signs, ranks)
    both = plus(one, other, ranks.columns)
    return power(signs, 4 * ranks.total - ranks.rank(one) - ranks.rank(other) - ranks.rank(both))
