"""Listings of desks."""

from toldorfree.ranks import Ranks, hangs_together
from toldorfree.trees import tree_of


def line_of(table, row):
    """The signs of a row of any table, each written in two characters."""
    found = table.rows[table.number_of(row)]
    return " ".join([f"{sign:>2}" for sign in found])


def sorts_line(table):
    """The sorts of the pieces of the table, if it hangs together."""
    sorts = ", ".join(list(tree_of(table).sorts())) if hangs_together(table) else "-"
    return f"pieces: {sorts}"


def listing(desk):
    """The table now of the desk, its deeds, its dealt column, its pieces and its rows, as lines."""
    table = desk.now
    rank = Ranks(table).total
    names = ", ".join(list(desk.deeds)) if desk.deeds else "none"
    dealt = "none" if desk.wanted is None else str(desk.wanted)
    lines = [f"signs {table.signs} columns {table.columns} rows {len(table.rows)} rank {rank}", f"deeds: {names}",
             f"dealt: {dealt}", sorts_line(table)]
    return "\n".join(lines + [line_of(table, row) for row in table.rows])
