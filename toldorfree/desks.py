"""A desk on which a fair table is made, changed, cut, glued and taken back."""

from toldorfree.checks import check_column
from toldorfree.circuits import fixed_columns
from toldorfree.errors import BadDeed, BadParting, OtherShape
from toldorfree.glue import glued
from toldorfree.holding import held
from toldorfree.naming import renamed
from toldorfree.partings import put_in
from toldorfree.putting import goes_in
from toldorfree.ranks import fair_counts
from toldorfree.reading import is_circuit_table
from toldorfree.rings import ring_group
from toldorfree.secrets import openers
from toldorfree.spectra import spectrum
from toldorfree.trees import tree_of


def place_without(column, gone):
    """The number of the column when those of gone are gone, None if it is one of them or there is none."""
    if column is None or column in gone:
        return None
    return column - len([other for other in gone if other < column])


class Desk:
    """The table now, and the deeds that led to it from the table at the start.

    done has for each deed its name, the table behind it and the dealt column behind it. It is a tuple, so that a
    trial can keep it. The first floor of these deeds cannot be taken back, as they were done before a trial began.
    """

    def __init__(self, table):
        fair_counts(table)
        self.start = table
        self.done = ()
        self.floor = 0

    @property
    def now(self):
        """The table now."""
        return self.done[-1][1] if self.done else self.start

    @property
    def deeds(self):
        """The names of the deeds done and not taken back, first deed first."""
        return tuple([deed[0] for deed in self.done])

    @property
    def left(self):
        """The number of deeds that can be taken back."""
        return len(self.done) - self.floor

    @property
    def wanted(self):
        """The number of the dealt column, None if there is none."""
        return self.done[-1][2] if self.done else None

    @wanted.setter
    def wanted(self, value):
        raise BadDeed("wanted")

    def note(self, name, table, wanted):
        """Do the deed name, which makes this the table now and this the dealt column; the table."""
        self.done = self.done + ((name, table, wanted),)
        return table

    def rename(self, renaming):
        """Rename the signs."""
        return self.note("rename", renamed(self.now, renaming), self.wanted)

    def move(self, order):
        """Move the columns."""
        table = self.now.moved(order)
        return self.note("move", table, None if self.wanted is None else list(order).index(self.wanted))

    def hold(self, column, sign):
        """Hold the table at a sign of a column."""
        return self.note("hold", held(self.now, column, sign), place_without(self.wanted, (column,)))

    def leave(self, lot):
        """Leave the columns of the lot out."""
        return self.note("leave", self.now - lot, place_without(self.wanted, lot))

    def copy(self, column):
        """Put a copy of the column in."""
        return self.note("copy", self.now.with_copy(column), self.wanted)

    def put(self, parting):
        """Put the parting in as a new column."""
        table = put_in(self.now, parting)
        if not goes_in(self.now, parting):
            raise BadParting(-1)
        return self.note("put", table, self.wanted)

    def glue(self, column, other, second, *, names=None):
        """Glue another table to this one."""
        table = glued(self.now, column, other, second, names=names)
        return self.note("glue", table, place_without(self.wanted, (column,)))

    def deal(self, column):
        """Make the column the dealt one."""
        check_column(column, self.now.columns)
        if column in fixed_columns(self.now):
            raise OtherShape("fixed")
        self.note("deal", self.now, column)
        return column

    def back(self):
        """Take the last deed back; its name."""
        if self.left == 0:
            raise BadDeed("back")
        name = self.done[-1][0]
        self.done = self.done[:-1]
        return name

    def tree(self):
        """The tree of the table now."""
        return tree_of(self.now)

    def opened_by(self):
        """The openers of the dealt column."""
        if self.wanted is None:
            raise BadDeed("wanted")
        return openers(self.now, self.wanted)

    def spectrum_now(self):
        """The spectrum of the table now."""
        return spectrum(self.now, self.now.rows[0])

    def ring_now(self):
        """The group of the table now in its ring order, None if there is none or the table is no circuit table."""
        return ring_group(self.now) if is_circuit_table(self.now) else None
