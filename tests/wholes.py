"""Tables that hang together, and cuts, splits, pieces and read products said again in the plainest way."""

from itertools import permutations

from tests.samples import (BENT, FAIR, FIVE, FOUR, GROUPS, KLEIN, SORTS, all_lots, bent, drawn, four_points,
                           glue_plainly, plain_circuits, plain_classes, plain_meet, plain_rank, ring, shuffled,
                           square_of)
from toldorfree.ranks import hangs_together
from toldorfree.tables import Table

TURNS = GROUPS["turns"]
SUMS4, SUMS5 = square_of(FOUR), square_of(GROUPS["5"])
# three squares glued one behind the other, squares glued to firm tables, equal columns in and beside them
MIXED = (
    glue_plainly(SUMS4, 2, BENT, 1, drawn(4, 5)), glue_plainly(BENT, 3, square_of(KLEIN), 0, drawn(4, 6)),
    glue_plainly(glue_plainly(SUMS4, 2, square_of(KLEIN), 0, drawn(4, 7)), 3, SUMS4, 1, drawn(4, 8)),
    glue_plainly(Table.parity(3, 4), 3, Table.parity(3, 2).with_copy(0), 0, (0, 1, 2)), Table.parity(2, 6),
    Table.parity(3, 3).with_copy(0).with_copy(1), Table(5, [(k, k, 4 - k, k) for k in range(5)]),
    shuffled(Table.parity(2, 7), 3), ring(KLEIN, 5), bent(5, [(0, 1)]), bent(5, [(0, 1, 2), (1, 2, 3)]),
)
# two squares and copies at their edge, a ring with a copy, four points with a copy, rings in other orders
MORE = (
    glue_plainly(SUMS4, 2, SUMS4, 0, (0, 2, 1, 3)), glue_plainly(SUMS4, 0, SUMS4, 1, (1, 0, 3, 2)),
    glue_plainly(glue_plainly(SUMS5, 2, Table.parity(5, 2).with_copy(0), 1, drawn(5, 2)), 2, FIVE, 0, drawn(5, 3)),
    glue_plainly(SUMS5, 2, FIVE, 2, drawn(5, 9)).with_copy(3).moved((4, 0, 3, 1, 2)),
    ring(TURNS, 4).with_copy(1), ring(TURNS, 4).moved((0, 2, 1, 3)), shuffled(ring(TURNS, 4), 2).moved((0, 1, 3, 2)),
    four_points(GROUPS["2"]).with_copy(2), four_points(GROUPS["3"]).with_copy(5), bent(4, [(0, 1)]).moved((2, 0, 1, 3)),
    glue_plainly(Table.parity(3, 3), 1, four_points(GROUPS["3"]), 2, (1, 2, 0)), shuffled(ring(GROUPS["5"], 4), 3),
    Table.parity(2, 3).with_copy(0).with_copy(1).with_copy(2).with_copy(4),
)
WHOLE = [table for table in FAIR + SORTS + MIXED if hangs_together(table) and table.many <= 512]
SMALL = [table for table in WHOLE if table.many <= 128]
# each table of MORE hangs together; the others are those of at most 128 rows, and the ring that is not abelian
TREES = SMALL + list(MORE) + [ring(TURNS, 4)]
LOOSE = [table for table in FAIR + SORTS if not hangs_together(table)]
PLAIN = {}


def rest(table, lot):
    return tuple(column for column in range(table.columns) if column not in lot)


def plain_cuts(table):
    return [lot for lot in all_lots(table.columns) if 0 in lot and 2 <= len(lot) <= table.columns - 2
            and plain_meet(table, lot, rest(table, lot)) == 1]


def plain_splits(table):
    """The splits by their sides with column 0, in lot order; kept, as several tests ask for them."""
    key = (table.signs, table.rows)
    if key not in PLAIN:
        PLAIN[key] = [lot for lot in plain_cuts(table)
                      if len(set(plain_classes(table, lot, rest(table, lot)))) == table.signs]
    return PLAIN[key]


def plain_crosses(one, other, columns):
    one, other = set(one), set(other)
    return bool(one - other and one & other and other - one and set(range(columns)) - one - other)


def plain_edges(table):
    splits = plain_splits(table)
    return [lot for lot in splits if not any(plain_crosses(lot, other, table.columns) for other in splits)]


def set_partings(columns):
    """All ways to part the columns into lots."""
    if not columns:
        return [[]]
    first, others = columns[0], columns[1:]
    found = []
    for lots in set_partings(others):
        found.append([(first,)] + lots)
        found.extend(lots[:at] + [(first,) + lots[at]] + lots[at + 1:] for at in range(len(lots)))
    return found


def plain_pieces(table):
    """The tuples of lots of all pieces, in order, by the words of [98]."""
    columns = table.columns
    if columns <= 2:
        return [tuple((column,) for column in range(columns))]
    edges = [(lot, rest(table, lot)) for lot in plain_edges(table)]
    sides = {side for pair in edges for side in pair} | {(column,) for column in range(columns)}
    found = []
    for lots in set_partings(tuple(range(columns))):
        if len(lots) >= 3 and all(lot in sides for lot in lots):
            if all(any(set(side) <= set(lot) for side in pair for lot in lots) for pair in edges):
                found.append(tuple(sorted(lots)))
    return sorted(found)


def plain_piece_table(table, lots):
    """The table with one column for each of the lots, by plain classes."""
    marks = [[row[lot[0]] for row in table] if len(lot) == 1 else plain_classes(table, lot, rest(table, lot))
             for lot in lots]
    return Table(table.signs, sorted(set(zip(*marks))))


def runs(order):
    """The runs of an order round, each by its side with column 0, as a set."""
    many = len(order)
    found = set()
    for start in range(many):
        for size in range(2, many - 1):
            run = {order[(start + step) % many] for step in range(size)}
            found.add(tuple(sorted(run if 0 in run else set(range(many)) - run)))
    return found


def orders_round(many):
    """The orders that begin with 0 and whose second entry is less than their last one."""
    return [(0,) + order for order in permutations(range(1, many)) if order[0] < order[-1]]


def plain_sorts(table):
    """All sorts that the words of [99] give to the table of a piece; there should be one."""
    many, splits = table.columns, set(plain_splits(table))
    circuit = plain_circuits(table) == [tuple(range(many))]
    found = []
    if many <= 2:
        found.append("small")
    if many >= 3 and plain_rank(table, range(many)) == 1:
        found.append("equal")
    if many == 3 and plain_rank(table, range(many)) == 2:
        found.append("square")
    if many >= 4 and circuit and splits == set(plain_cuts(table)):
        found.append("star")
    if many >= 4 and circuit and any(splits == runs(order) for order in orders_round(many)):
        # each run of four columns and a star would be runs, too, if all cuts were
        found.append("ring")
    if many >= 4 and not splits:
        found.append("firm")
    return found


def plain_element(table, base, column, sign):
    """The last sign of the row with the sign at the column and the signs of base at all others but the last."""
    return [row[-1] for row in table if row[column] == sign
            and all(row[other] == base[other] for other in range(table.columns - 1) if other != column)][0]


def plain_product(table, base):
    """The table of the read product at the row base."""
    signs = range(table.signs)
    first = {plain_element(table, base, 0, sign): sign for sign in signs}
    second = {plain_element(table, base, 1, sign): sign for sign in signs}
    lasts = {row[:-1]: row[-1] for row in table}
    return tuple(tuple(lasts[(first[a], second[b]) + base[2:-1]] for b in signs) for a in signs)
