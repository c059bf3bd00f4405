"""Rows that fit given part-rows, and tables rebuilt from the circuits of a base."""

from toldorfree.checks import check_columns, check_signs, is_listed
from toldorfree.circuits import checked_base, circuit_within, circuits_of
from toldorfree.errors import BadRow, TooMany
from toldorfree.lots import bad_place
from toldorfree.tables import Table, part_of

MOST_FITTING = 20000


def rows_fitting(signs, columns, parts):
    """All rows with one of the rows of the table on the lot, for each pair (lot, table) of parts."""
    check_signs(signs)
    check_columns(columns)
    if not is_listed(parts):
        raise BadRow(-1)
    for place, entry in enumerate(parts):
        if not is_part_entry(entry, signs, columns):
            raise BadRow(place)
    steps = steps_for(signs, columns, [(tuple(sorted(lot)), table.rows) for lot, table in parts])
    found = []
    extend(steps, {}, found)
    return tuple(sorted([tuple([row[column] for column in range(columns)]) for row in found]))


def is_part_entry(entry, signs, columns):
    """Whether entry is a pair of a lot and a table of so many signs for its columns."""
    if not is_listed(entry) or len(entry) != 2:
        return False
    if bad_place(entry[0], columns) is not None or not isinstance(entry[1], Table):
        return False
    return entry[1].signs == signs and entry[1].columns == len(entry[0])


def steps_for(signs, columns, parts):
    """One step for each column, in an order in which few rows are begun in vain."""
    steps = []
    done = ()
    for _ in range(columns):
        left = [step_for(column, done, signs, parts) for column in range(columns) if column not in done]
        best = min(left, key=step_cost)
        steps.append(best)
        done = done + (best.column,)
    return steps


def step_cost(step):
    """What orders steps: the signs that a row goes on with, then how few parts speak of the column."""
    return (step.spread, -len(step.limits))


def step_for(column, done, signs, parts):
    """The step for the column behind the columns of done."""
    limits = []
    spread = signs * 1000
    for lot, rows in parts:
        if column in lot:
            before = tuple([place for place in lot if place in done])
            signs_after = signs_by_parts(lot, rows, before, column)
            limits.append((before, signs_after))
            spread = min(spread, mean_spread(signs_after))
    return Step(column, list(range(signs)), limits, spread)


def mean_spread(signs_after):
    """How many signs follow a part-row, in thousandths, in the mean and rounded down."""
    return 1000 * sum([len(signs_after[part]) for part in signs_after]) // len(signs_after)


def signs_by_parts(lot, rows, before, column):
    """The signs at column by the part-rows on before, of rows on lot."""
    at = lot.index(column)
    places = [place for place, other in enumerate(lot) if other in before]
    found = {}
    for row in rows:
        found.setdefault(part_of(row, places), {})[row[at]] = True
    return found


class Step:
    """A column to be filled, and what limits its signs when earlier columns are filled."""

    def __init__(self, column, signs, limits, spread):
        self.column = column
        self.signs = signs
        self.limits = limits
        self.spread = spread

    def signs_behind(self, row):
        """The signs that may follow the signs of row, a dict by columns."""
        found = self.signs
        for before, signs_after in self.limits:
            allowed = signs_after.get(part_of(row, before), {})
            found = [sign for sign in found if sign in allowed]
        return found


def extend(steps, row, found):
    """Put all rows into found that the steps make of row, a dict by columns."""
    if len(row) == len(steps):
        if len(found) == MOST_FITTING:
            raise TooMany(MOST_FITTING)
        found.append(row)
        return
    step = steps[len(row)]
    for sign in step.signs_behind(row):
        longer = {column: row[column] for column in row}
        longer[step.column] = sign
        extend(steps, longer, found)


def base_parts(table, base):
    """The pairs of a circuit and the part table on it, for the columns outside the base."""
    lot = checked_base(table, base)
    circuits = circuits_of(table)
    found = [circuit_within(circuits, lot, column) for column in range(table.columns) if column not in lot]
    return tuple([(circuit, table.part_table(circuit)) for circuit in found])


def rebuilt(table, base):
    """The table of the rows that fit the part tables on the circuits of the base."""
    return Table(table.signs, list(rows_fitting(table.signs, table.columns, base_parts(table, base))))
