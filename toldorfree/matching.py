"""Renamings that lead one fair table to another."""

from toldorfree.checks import check_sizes
from toldorfree.circuits import circuit_within, circuits_of, least_base
from toldorfree.naming import Renaming, renamed
from toldorfree.ranks import Ranks, fair_counts, hanging_parts


def renaming_between(one, other):
    """Some renaming that leads one to other, None if there is none."""
    check_sizes(one, other)
    if not Ranks(one) == Ranks(other):
        return None
    names = {}
    for lot in hanging_parts(one):
        # tables with the same hanging parts are matched part by part
        found = names_for(one.part_table(lot), other.part_table(lot))
        if found is None:
            return None
        for place, column in enumerate(lot):
            names[column] = found[place]
    return Renaming([names[column] for column in range(one.columns)])


def equal_up_to_names(one, other):
    """Whether some renaming leads one to other."""
    return renaming_between(one, other) is not None


def keeps(table, renaming):
    """Whether the renaming leads the table to itself."""
    check_sizes(table, renaming)
    fair_counts(table)
    return renamed(table, renaming) == table


def names_for(one, other):
    """Names that lead one to other, tables of one shape that hang together; None if there are none."""
    if one.columns == 1:
        return [exchange(one.rows[0][0], other.rows[0][0], one.signs)]
    search = Search(one, other)
    for row in other.rows:
        start = Names([[None] * one.signs for _ in range(one.columns)])
        if search.give_all(start, [(column, one.rows[0][column], row[column]) for column in search.base]):
            found = search.completed(start)
            if found is not None:
                return found.names
    return None


def exchange(first, second, signs):
    """The permutation of the signs that exchanges two of them."""
    names = list(range(signs))
    names[first] = second
    names[second] = first
    return names


class Names:
    """The names given so far: a list for each column, None for a sign that has none."""

    def __init__(self, names):
        self.names = names

    def copied(self):
        """Names that can be given on without changing these."""
        return Names([list(entry) for entry in self.names])

    def first_open(self):
        """The first column and sign without a name, None if all signs have one."""
        for column, entry in enumerate(self.names):
            if None in entry:
                return (column, entry.index(None))
        return None

    def give(self, column, sign, name):
        """Give the sign its name; whether this agrees with the names given before."""
        entry = self.names[column]
        if entry[sign] is not None:
            return entry[sign] == name
        if name in entry:
            return False
        entry[sign] = name
        return True


class Search:
    """A search for names that lead one table to another one of its shape."""

    def __init__(self, one, other):
        self.base = least_base(one)
        circuits = circuits_of(one)
        outside = [column for column in range(one.columns) if column not in self.base]
        self.circuits = [circuit_within(circuits, self.base, column) for column in outside]
        self.parts = {}
        self.goals = {}
        for number, circuit in enumerate(self.circuits):
            self.note_parts(number, circuit, one)
            self.note_goals(number, other.part_rows(circuit))

    def note_parts(self, number, circuit, one):
        """Keep the part-rows of one on a circuit by their signs."""
        for part in one.part_rows(circuit):
            for place, sign in enumerate(part):
                self.parts.setdefault((circuit[place], sign), []).append((number, part))

    def note_goals(self, number, parts):
        """Keep what the names of all signs but one of a part-row on a circuit have to go with."""
        for part in parts:
            for place, sign in enumerate(part):
                self.goals[(number, place, part[:place] + part[place + 1:])] = sign

    def completed(self, given):
        """Names for all signs that go on from the given ones, None if there are none."""
        place = given.first_open()
        if place is None:
            return given
        column, sign = place
        for name in range(len(given.names[column])):
            trial = given.copied()
            if name not in given.names[column] and self.give_all(trial, [(column, sign, name)]):
                found = self.completed(trial)
                if found is not None:
                    return found
        return None

    def give_all(self, given, wanted):
        """Give the wanted names and all that follow from them; whether they all agree."""
        queue = list(wanted)
        while queue:
            column, sign, name = queue.pop()
            known = given.names[column][sign] is not None
            if not given.give(column, sign, name):
                return False
            if not known:
                for number, part in self.parts.get((column, sign), []):
                    following = self.following(given, number, part)
                    if following is not None:
                        queue.append(following)
        return True

    def following(self, given, number, part):
        """The name that follows from those of the other signs of a part-row; None if more are open."""
        circuit = self.circuits[number]
        names = [given.names[column][sign] for column, sign in zip(circuit, part)]
        left = names.count(None)
        if left > 1:
            return None
        place = names.index(None) if left == 1 else 0
        goal = self.goals[(number, place, tuple(names[:place] + names[place + 1:]))]
        return (circuit[place], part[place], goal)
