"""Coarse tables: signs taken together in blocks."""

from math import comb

from toldorfree.checks import are_signs, is_listed, is_within, numbers_of, power
from toldorfree.circuits import least_base
from toldorfree.errors import BadBlocks, BadNumber
from toldorfree.fairness import told_by
from toldorfree.inner import check_choices
from toldorfree.ranks import Ranks, fair_counts
from toldorfree.tables import Table, all_choices


def size_in(entry, signs):
    """The size of the blocks in the entry of one column, None if it holds no blocks of so many signs."""
    if not are_signs(entry, signs) or len(entry) != signs or numbers_of(entry) != tuple(entry):
        return None
    sizes = [entry.count(number) for number in range(max(entry) + 1)]
    return sizes[0] if 1 < sizes[0] < signs and sizes.count(sizes[0]) == len(sizes) else None


def check_blocks(table, blocks):
    """Raise BadBlocks unless blocks are blocks of one size for the columns of the table."""
    if not is_listed(blocks) or len(blocks) != table.columns:
        raise BadBlocks(-1)
    for column, entry in enumerate(blocks):
        size = size_in(entry, table.signs)
        if size is None or size != size_in(blocks[0], table.signs):
            raise BadBlocks(column)


def coarse_rows(table, blocks):
    """The different coarse rows."""
    return list({tuple([entry[sign] for entry, sign in zip(blocks, row)]): True for row in table.rows})


def blocks_many(blocks):
    """How many blocks there are at each column."""
    return max(blocks[0]) + 1


def coarse_table(table, blocks):
    """The table of the coarse rows of any table."""
    check_blocks(table, blocks)
    return Table(blocks_many(blocks), coarse_rows(table, blocks))


def is_coarse(table, blocks):
    """Whether there are as few coarse rows as there can be."""
    check_blocks(table, blocks)
    return power(blocks_many(blocks), Ranks(table).total) == len(coarse_rows(table, blocks))


def block_of(table, blocks, row):
    """The chosen signs that are at each column in the block of the sign of row."""
    check_blocks(table, blocks)
    fair_counts(table)
    table.number_of(row)
    fixed = told_by(table, ())
    return tuple([(sign,) if column in fixed else block_with(blocks[column], sign) for column, sign in enumerate(row)])


def block_with(entry, sign):
    """The signs in the block of this sign."""
    return tuple([other for other, number in enumerate(entry) if number == entry[sign]])


def coarse_blocks(table, size):
    """All blocks of this size with which the table is coarse, ascending."""
    if not is_within(size, 2, table.signs // 2) or table.signs % size != 0:
        raise BadNumber("size")
    base = least_base(table)
    check_choices(block_ways(table.signs, size), len(base))
    found = [blocks_beside(table, base, choice, size)
             for choice in all_choices([all_blocks(table.signs, size) for _ in base])]
    same = tuple([sign // size for sign in range(table.signs)])
    return tuple(sorted([tuple([blocks.get(column, same) for column in range(table.columns)])
                         for blocks in found if blocks is not None]))


def block_ways(signs, size):
    """The number of ways to put so many signs into blocks of this size."""
    ways = 1
    for left in range(size, signs + 1, size):
        # the least sign that is left chooses the others of its block
        ways = ways * comb(left - 1, size - 1)
    return ways


def all_blocks(signs, size):
    """All blocks of this size at one column, ascending."""
    found = [()]
    for _ in range(signs):
        found = [begin + (number,) for begin in found for number in numbers_behind(begin, signs // size, size)]
    return found


def numbers_behind(begin, many, size):
    """The block numbers that may follow those of begin: of the blocks with room, and of the next new block."""
    begun = max(begin, default=-1) + 1
    return [number for number in range(min(begun + 1, many)) if begin.count(number) < size]


def blocks_beside(table, base, choice, size):
    """The blocks of all columns that are told by those of the choice at the base, None if there are none.

    It is a dict by columns, without the fixed ones.
    """
    parts = [tuple([numbers[row[place]] for numbers, place in zip(choice, base)]) for row in table.rows]
    found = {}
    for column in range(table.columns):
        signs = [row[column] for row in table.rows]
        if len(set(signs)) > 1:
            entry = told_blocks(parts, signs, table.signs, size)
            if entry is None:
                return None
            found[column] = entry
    return found


def told_blocks(parts, signs, many, size):
    """The blocks of so many signs at a column, if signs beside equal parts are in one block; None if there are none.

    The parts and the signs are given row by row.
    """
    beside = {}
    for part, sign in zip(parts, signs):
        beside.setdefault(part, {})[sign] = True
    found = sorted(set([tuple(sorted(beside[part])) for part in beside]))
    # each sign stands in some row, so blocks of this size that are not too many have no sign in common
    if len(found) * size != many or any([len(block) != size for block in found]):
        return None
    return tuple([[sign in block for block in found].index(True) for sign in range(many)])
