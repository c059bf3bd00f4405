"""Dual counts and turned counts."""

from math import comb

from toldorfree.checks import check_signs, is_integer, is_listed, power
from toldorfree.errors import BadNumber, BadRow
from toldorfree.lots import is_part, lot_of, lots_of
from toldorfree.spectra import check_ranks
from toldorfree.together import check_together


def dual_count(signs, ranks, lot, *, many=1):
    """The dual count of lot."""
    check_ranks(signs, ranks)
    wanted = lot_of(lot, ranks.columns)
    check_together(many)
    found = 0
    for smaller in lots_of(ranks.columns, most=len(wanted)):
        if is_part(smaller, wanted):
            worth = power(signs, many * (len(smaller) - ranks.rank(smaller)))
            found += worth if (len(wanted) - len(smaller)) & 1 == 0 else -worth
    return found


def dual_spectrum(signs, ranks):
    """The sums of the dual counts over all lots of 0, 1, .. columns."""
    check_ranks(signs, ranks)
    found = [0] * (ranks.columns + 1)
    for lot in lots_of(ranks.columns):
        found[len(lot)] += dual_count(signs, ranks, lot)
    return tuple(found)


def turned(signs, counts):
    """The turned counts, None if one of them is no integer."""
    check_signs(signs)
    check_counts(counts)
    total = sum(counts)
    columns = len(counts) - 1
    found = []
    for to in range(columns + 1):
        count, left = divmod(sum([counts[at] * turning(signs, columns, to, at) for at in range(columns + 1)]), total)
        if left != 0:
            return None
        found.append(count)
    return tuple(found)


def check_counts(counts):
    """Raise BadRow unless counts is a list or tuple of 2 to 9 integers, BadNumber unless its sum is above 0."""
    if not is_listed(counts) or not 2 <= len(counts) <= 9:
        raise BadRow(-1)
    for place, count in enumerate(counts):
        if not is_integer(count):
            raise BadRow(place)
    if sum(counts) <= 0:
        raise BadNumber("counts")


def turning(signs, columns, to, at):
    """What one of the counts at the place at adds to the turned count at the place to: K(to, at)."""
    found = 0
    for some in range(to + 1):
        worth = power(signs - 1, to - some) * comb(at, some) * comb(columns - at, to - some)
        found += worth if some & 1 == 0 else -worth
    return found
