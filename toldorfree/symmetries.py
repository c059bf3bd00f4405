"""The symmetries of a fair table: the renamings that lead it to itself and keep each sign at a fixed column."""

from toldorfree.errors import TooMany
from toldorfree.matching import Names, Search
from toldorfree.naming import Renaming, names_after
from toldorfree.ranks import hanging_parts
from toldorfree.tables import all_choices, part_of

MOST_SYMMETRIES = 2000


def check_row(table, row):
    """Raise NoRow unless row is a row of the table."""
    table.number_of(row)


def symmetries_of(table, *, row=None):
    """All symmetries, or those that lead row to itself, ascending by their names."""
    lots, levels = levels_by_parts(table, row)
    if count_by(levels) > MOST_SYMMETRIES:
        raise TooMany(MOST_SYMMETRIES)
    same = [same_names(table.signs, len(lot)) for lot in lots]
    choices = all_choices([products_by(some, start) for some, start in zip(levels, same)])
    return tuple([Renaming(names) for names in sorted([side_by_side(lots, choice) for choice in choices])])


def count_symmetries(table, *, row=None):
    """The number of all symmetries, or of those that lead row to itself."""
    return count_by(levels_by_parts(table, row)[1])


def leads(table, first, last):
    """The symmetry with the least names that leads first to last, None if there is none."""
    check_row(table, first)
    check_row(table, last)
    lots = hanging_parts(table)
    # the parts are renamed each for itself, so the least names of all columns are the least ones of each part
    found = [least_leading(table.part_table(lot), part_of(first, lot), part_of(last, lot)) for lot in lots]
    return None if None in found else Renaming(side_by_side(lots, found))


def side_by_side(lots, found):
    """The names of all columns, for names that were found for each of the lots."""
    names = {}
    for lot, entries in zip(lots, found):
        for column, entry in zip(lot, entries):
            names[column] = entry
    return tuple([names[column] for column in range(len(names))])


def same_names(signs, columns):
    """The names that change nothing."""
    return (tuple(range(signs)),) * columns


def least_leading(table, first, last):
    """The least names that lead one row to another, for a table that hangs together; None if there are none."""
    # a fixed column has one sign in both rows, so its least names keep all signs
    return led(Search(table, table), open_names(table), place_of(first), place_of(last))


def open_names(table):
    """Names of which none is given yet."""
    return Names([[None] * table.signs for _ in range(table.columns)])


def place_of(row):
    """The pairs of a column and a sign that a row has."""
    return tuple(enumerate(row))


def led(search, given, place, goal):
    """The least names that go on from the given ones and lead place to goal; None if there are none."""
    trial = given.copied()
    if not search.give_all(trial, [(column, sign, name) for (column, sign), (_, name) in zip(place, goal)]):
        return None
    found = search.completed(trial)
    return None if found is None else tuple([tuple(entry) for entry in found.names])


def levels_by_parts(table, row):
    """The hanging parts, and the levels of the symmetries of each of them."""
    if row is not None:
        check_row(table, row)
    lots = hanging_parts(table)
    return (lots, [levels_of(table.part_table(lot), None if row is None else part_of(row, lot)) for lot in lots])


def levels_of(table, row):
    """Where the symmetries of a table that hangs together lead one place after another, the last place first.

    A place is a row or a sign at a column, as pairs of a column and a sign. A level has for each goal to which its
    place can be led a symmetry that does so and keeps all places of the levels behind it. So each symmetry is the
    product of one entry of each level in just one way, and their number is the product of the sizes.
    """
    if len(table.rows) == 1:
        return []
    search = Search(table, table)
    steps = steps_to(search, open_names(table), place_of(table.rows[0] if row is None else row))
    makers = []
    levels = []
    for number in reversed(range(len(steps))):
        given, place = steps[number]
        if number > 0:
            goals = signs_at(place, table.signs)
        else:
            goals = [place_of(other) for other in table.rows] if row is None else []
        levels.append(level_at(search, given, place, goals, makers))
    return levels


def steps_to(search, given, place):
    """The places that are kept one after the other until all signs are, each with what is kept before."""
    found = [(given, place)]
    while place is not None:
        given = given.copied()
        search.give_all(given, [(column, sign, sign) for column, sign in place])
        open_sign = given.first_open()
        place = None if open_sign is None else (open_sign,)
        if place is not None:
            found.append((given, place))
    return found


def signs_at(place, signs):
    """All signs at the column of a place, as places."""
    column, _ = place[0]
    return [((column, name),) for name in range(signs)]


def level_at(search, given, place, goals, makers):
    """A symmetry for each of the goals to which the place can be led, by goals; those that were found join makers."""
    columns = len(given.names)
    start = {place: same_names(len(given.names[0]), columns)}
    reached = spread(start, makers)
    barred = {}
    for goal in goals:
        if goal not in reached and goal not in barred:
            found = led(search, given, place, goal)
            if found is None:
                # what the makers lead this goal to cannot be reached either
                for other in spread({goal: start[place]}, makers):
                    barred[other] = True
            else:
                makers.append(found)
                reached = spread(start, makers)
    return reached


def spread(start, makers):
    """The places to which makers lead those of start, each with the product that does so: a dict by places."""
    found = {place: start[place] for place in start}
    queue = list(found)
    while queue:
        place = queue.pop()
        for maker in makers:
            goal = tuple([(column, maker[column][sign]) for column, sign in place])
            if goal not in found:
                found[goal] = names_after(maker, found[place])
                queue.append(goal)
    return found


def count_by(levels):
    """The number of symmetries with these levels of the parts."""
    found = 1
    for some in levels:
        for level in some:
            found = found * len(level)
    return found


def products_by(levels, start):
    """All products of one entry of each of the levels."""
    found = [start]
    for level in levels:
        found = [names_after(late, early) for late in list(level.values()) for early in found]
    return found
