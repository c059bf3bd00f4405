"""Tables for the tests, and the words of the document said again in the plainest way."""

import random
from itertools import combinations, permutations, product

from toldorfree.groups import Group
from toldorfree.naming import Renaming, renamed
from toldorfree.tables import Table

# what is an integer to Python or near one, but none in the document
NO_INTEGERS = (True, False, None, 1.0, "1", (1,), [1])
# what is neither a list nor a tuple
NO_LISTS = (None, 3, "01", {0: 1}, {0, 1}, True)


def all_lots(columns):
    """All lots in lot order."""
    return [lot for size in range(columns + 1) for lot in combinations(range(columns), size)]


def parts(table, lot):
    return {tuple(row[column] for column in sorted(lot)) for row in table.rows}


def signs_beside(table, lot, column):
    """The sets of signs at the column beside each part-row on lot."""
    found = {}
    for row in table.rows:
        found.setdefault(tuple(row[place] for place in lot), set()).add(row[column])
    return found.values()


def plain_tells(table, lot, column):
    return all(len(signs) == 1 for signs in signs_beside(table, lot, column))


def plain_told(table, lot, parting):
    """Whether rows that are alike on lot have the same sign in the parting."""
    signs = {}
    for row, sign in zip(table, parting):
        signs.setdefault(tuple(row[column] for column in lot), set()).add(sign)
    return all(len(some) == 1 for some in signs.values())


def plain_free(table, lot, column):
    return all(len(signs) == table.signs for signs in signs_beside(table, lot, column))


def plain_fair(table):
    return all(plain_tells(table, lot, column) or plain_free(table, lot, column)
               for lot in all_lots(table.columns) for column in range(table.columns))


def plain_full(table, lot):
    return len(parts(table, lot)) == table.signs ** len(lot)


def smaller(lot):
    return [part for size in range(len(lot)) for part in combinations(lot, size)]


def plain_circuits(table):
    return [lot for lot in all_lots(table.columns)
            if not plain_full(table, lot) and all(plain_full(table, part) for part in smaller(lot))]


def plain_latin(table):
    return (len(table.rows) == table.signs ** (table.columns - 1)
            and all(plain_full(table, lot) for lot in combinations(range(table.columns), table.columns - 1)))


def plain_rank(table, lot):
    many = len(parts(table, lot))
    return [rank for rank in range(9) if table.signs ** rank == many][0]


def plain_power(number, base):
    return number in [base ** exponent for exponent in range(20)]


def square(signs, times):
    """The table of the rows (x, y, times(x, y))."""
    return Table(signs, [(x, y, times(x, y)) for x in range(signs) for y in range(signs)])


def square_of(group):
    return square(group.size, group.times)


def ring(group, columns):
    """The rows of so many elements whose product is the unit."""
    return Table(group.size, [row + (group.inverse(group.product_of(row)),)
                              for row in product(range(group.size), repeat=columns - 1)])


def bent(columns, bends):
    """The bent table of the document with these bends."""
    rows = []
    for row in product(range(4), repeat=columns - 1):
        high = sum(sign // 2 for sign in row) % 2
        low = sum(sign % 2 for sign in row)
        low += sum(all(row[column] // 2 for column in bend) for bend in bends)
        rows.append(row + (2 * high + low % 2,))
    return Table(4, rows)


def four_points(group):
    """The rows of the quotients of four elements, for the six pairs of them."""
    pairs = [(0, 1), (0, 2), (0, 3), (1, 2), (1, 3), (2, 3)]
    return Table(group.size, list({tuple(group.times(group.inverse(four[i]), four[j]) for i, j in pairs)
                                   for four in product(range(group.size), repeat=4)}))


def line(signs, columns):
    """Rows (x, y, x + y, x + 2*y, ..) mod a prime."""
    return Table(signs, [((x, y) + tuple((x + k * y) % signs for k in range(1, signs)))[:columns]
                         for x in range(signs) for y in range(signs)])


def shuffled(table, seed):
    """The table with the signs of each column renamed."""
    chance = random.Random(seed)
    return renamed(table, Renaming([chance.sample(range(table.signs), table.signs) for _ in range(table.columns)]))


def every_table(signs, columns):
    """All tables of so many signs and columns."""
    rows = list(product(range(signs), repeat=columns))
    return [Table(signs, some) for many in range(1, len(rows) + 1) for some in combinations(rows, many)]


def glue_plainly(one, column, other, second, names):
    """The rows of one and other side by side, without the two columns at which names lead the one sign to the other."""
    return Table(one.signs, [early[:column] + early[column + 1:] + late[:second] + late[second + 1:]
                             for early in one for late in other if names[early[column]] == late[second]])


def drawn(signs, seed):
    """A drawn permutation of the signs."""
    return random.Random(seed).sample(range(signs), signs)


def drawn_square(signs, seed):
    """A drawn square: each line is a matching of columns and signs that have not stood there."""
    chance = random.Random(seed)
    left = [set(range(signs)) for _ in range(signs)]
    lines = []
    for _ in range(signs):
        taken = {}

        def place(column, tried):
            for sign in chance.sample(sorted(left[column]), len(left[column])):
                if sign not in tried:
                    tried.add(sign)
                    if sign not in taken or place(taken[sign], tried):
                        taken[sign] = column
                        return True
            return False

        for column in range(signs):
            place(column, set())
        for sign, column in taken.items():
            left[column].discard(sign)
        lines.append({column: sign for sign, column in taken.items()})
    return Table(signs, [(x, y, lines[x][y]) for x in range(signs) for y in range(signs)])


def plain_classes(table, one, other):
    """The number of the class of each row, by steps from row to row."""
    near = {}
    for number, row in enumerate(table.rows):
        for lot in {tuple(one), tuple(other)}:
            near.setdefault((lot, tuple(row[column] for column in lot)), []).append(number)
    found = {}
    many = 0
    for start in range(table.many):
        if start not in found:
            queue = [start]
            found[start] = many
            while queue:
                row = table.rows[queue.pop()]
                for lot in {tuple(one), tuple(other)}:
                    # the rows that are alike are gone through once, as they all get this number now
                    for place in near.pop((lot, tuple(row[column] for column in lot)), []):
                        if place not in found:
                            found[place] = many
                            queue.append(place)
            many += 1
    return tuple(found[place] for place in range(table.many))


def alike_on(row, other, lot):
    return all(row[column] == other[column] for column in lot)


def plain_meet(table, one, other):
    both = set(one) | set(other)
    return plain_rank(table, one) + plain_rank(table, other) - plain_rank(table, both)


def pairs_of_lots(columns, many, seed):
    """Pairs of lots: the edges, some pairs with their rests, and drawn ones."""
    chance = random.Random(seed)
    lots = all_lots(columns)
    whole = lots[-1]
    found = [((), ()), ((), whole), (whole, ()), (whole, whole), ((0,), whole), (whole[:1], whole[1:])]
    for number in range(many):
        # both sides of what may be a cut, and any lots
        one = chance.choice([lot for lot in lots if 2 <= len(lot) <= columns - 2] or lots)
        rest = tuple(column for column in whole if column not in one)
        found.append((one, rest) if number % 2 == 0 else (chance.choice(lots), chance.choice(lots)))
    return found


def nearly_parity(signs, rank):
    """The table of [11] for rank >= 2: the sums of the other signs, but 1 in the row of zeros."""
    return Table(signs, [row + (sum(row) % signs if any(row) else 1,) for row in product(range(signs), repeat=rank)])


def nearly_full(signs):
    """The table of [11] for r = 1."""
    return Table(signs, [(0, 1)] + [(sign, sign) for sign in range(1, signs)])


FOUR = Group.sums(4)
KLEIN = Group.sums(2) * Group.sums(2)
GROUPS = {"2": Group.sums(2), "3": Group.sums(3), "4": FOUR, "klein": KLEIN, "5": Group.sums(5),
          "6": Group.sums(6), "turns": Group.turns()}

# the group of the turns and mirrors of five points
FIVES = Group([[(x // 2 + y // 2 * (-1) ** (x % 2)) % 5 * 2 + (x + y) % 2 for y in range(10)] for x in range(10)])

# fair tables of at most 81 rows, with full ones, Latin cubes, copies, fixed columns and parts beside one another
FAIR = (
    Table.full(2, 1), Table.full(3, 1), Table.full(36, 1), Table.full(2, 2), Table.full(3, 2), Table.full(2, 6),
    Table(2, [(1,)]), Table(36, [(35,)]), Table(3, [(2, 0, 1)]), Table(2, [(0, 1, 0, 1, 0, 1, 0, 1)]),
    Table(2, [(0, 1), (1, 0)]), Table(2, [(0, 0, 1, 1), (1, 0, 0, 1)]), Table(5, [(k, 4, k, 4 - k) for k in range(5)]),
    Table.parity(2, 1), Table.parity(2, 2), Table.parity(2, 3), Table.parity(2, 4), Table.parity(2, 7),
    Table.parity(3, 3), Table.parity(3, 4), Table.parity(4, 3), Table.parity(5, 3), Table.parity(9, 3),
    square_of(KLEIN), square_of(Group.turns()), shuffled(square_of(Group.turns()), 5), ring(FOUR, 4), ring(KLEIN, 4),
    bent(4, [(0, 1, 2)]), bent(4, [(0, 1)]), four_points(Group.sums(2)), four_points(Group.sums(3)),
    line(3, 4), line(5, 6), line(7, 8), line(5, 6).moved((5, 2, 0, 4, 1, 3)), line(5, 4),
    Table.parity(2, 3) + Table.parity(2, 2), Table.parity(3, 3) + Table.full(3, 1) + Table(3, [(1,)]),
    Table.parity(2, 3).with_copy(1).with_copy(0), Table.parity(3, 3).with_copy(2).moved((3, 0, 2, 1)),
    Table.full(2, 2).with_copy(0).with_copy(1).with_copy(0) + Table(2, [(1,)]),
    Table.parity(2, 3) * Table.parity(3, 3), Table.parity(2, 4) - (2,), Table.parity(2, 5).part_table((0, 1, 2, 3)),
    Table(2, [(x, y, z, x ^ y, x ^ z, y ^ z, x ^ y ^ z) for x, y, z in product(range(2), repeat=3)]),
    Table(2, [(x, y, z, w, x ^ y, y ^ z, z ^ w, w ^ x) for x, y, z, w in product(range(2), repeat=4)]),
    Table(3, [(x, y, z, (x + y) % 3, (x + 2 * y) % 3, (y + z) % 3, (x + y + z) % 3, x)
              for x, y, z in product(range(3), repeat=3)]),
)

UNFAIR = (
    Table(2, [(0, 0), (0, 1), (1, 0)]), Table(3, [(0,), (1,)]), Table(3, [(0, 0), (1, 1)]),
    nearly_parity(2, 2), nearly_parity(2, 3), nearly_parity(3, 2), nearly_parity(4, 2), nearly_parity(2, 4),
    nearly_full(3), nearly_full(4), nearly_full(7),
    Table(4, [(0,), (2,)]), Table(6, [(0,), (2,), (4,)]),
    Table(2, Table.full(2, 3).rows[:5]), Table(3, Table.parity(3, 3).rows[:8]),
    Table(2, [(0, 0, 0), (0, 1, 1), (1, 0, 0), (1, 1, 0)]),
    Table(4, [(x, y, (x + y) % 4, x ^ y) for x in range(4) for y in range(4)]),
    Table.parity(2, 3) + Table(2, [(0, 0), (0, 1), (1, 1)]),
)

# a square of 5 signs that is no group's: each sign undoes itself
LOOP = ((0, 1, 2, 3, 4), (1, 0, 3, 4, 2), (2, 4, 0, 1, 3), (3, 2, 4, 0, 1), (4, 3, 1, 2, 0))
FIVE = square(5, lambda x, y: LOOP[x][y])
# the bent table in which the lots (0, 1) and (2, 3) do not meet
BENT = bent(4, [(0, 1, 2)])

# fair tables of at most 512 rows in which not all lots meet, or that are made of others
SORTS = (
    FIVE, shuffled(FIVE, 1), glue_plainly(FIVE, 2, FIVE, 0, drawn(5, 1)),
    glue_plainly(square_of(FOUR), 2, square_of(FOUR), 0, drawn(4, 2)),
    glue_plainly(square_of(FOUR), 1, square_of(KLEIN), 2, drawn(4, 3)),
    glue_plainly(square_of(GROUPS["5"]), 0, FIVE, 1, drawn(5, 4)).moved((2, 0, 3, 1)),
    ring(GROUPS["turns"], 4), ring(FOUR, 4), shuffled(ring(KLEIN, 4), 6).moved((1, 3, 0, 2)), ring(GROUPS["2"], 7),
    BENT, bent(4, [(0, 1)]), bent(4, [()]), shuffled(bent(4, [(0, 1, 2), (1,)]), 7), bent(5, [(0, 1)]),
    bent(5, [(0, 1, 2), (1, 2, 3)]), four_points(KLEIN), four_points(FOUR), shuffled(four_points(GROUPS["3"]), 8),
    four_points(GROUPS["turns"]).moved((4, 2, 0, 5, 1, 3)), line(5, 6), line(7, 4),
    square_of(GROUPS["3"]) * square_of(KLEIN), bent(3, [(0, 1)]) * Table.parity(3, 3), ring(GROUPS["2"], 4) * bent(4, []),
    BENT.with_copy(1) + Table(4, [(2,)]), BENT - (1,),
    Table(5, [(3,)]) + FIVE.with_copy(2), (BENT + Table.full(4, 1)).moved((4, 1, 3, 0, 2)),
    Table(6, [(k, 4, k, 5 - k) for k in range(6)]), Table(4, [(3, 0, 3)]),
)


def bases_plainly(table):
    """The full lots that tell all columns, by their part-rows."""
    return [lot for lot in all_lots(table.columns)
            if plain_full(table, lot) and len(parts(table, lot)) == len(table.rows)]


def renamings_plainly(signs, columns):
    """All renamings of so many signs and columns."""
    return [Renaming(names) for names in product(permutations(range(signs)), repeat=columns)]
