"""The errors of the package. Each stores the one value that it was made with."""


class TableError(Exception):
    """Any error that the package raises by its own will."""


class BadNumber(TableError):
    """A number is of the wrong kind or out of its range."""

    def __init__(self, name):
        super().__init__(f"wrong number: {name}")
        self.name = name


class BadRow(TableError):
    """A row, or the entry at this place, is none; -1 stands for the whole."""

    def __init__(self, place):
        super().__init__(f"wrong row or entry at place {place}")
        self.place = place


class BadLot(TableError):
    """The entry of a lot at this place is wrong; -1 stands for the whole lot."""

    def __init__(self, place):
        super().__init__(f"wrong lot at place {place}")
        self.place = place


class BadNames(TableError):
    """The names of this column are no permutation; -1 stands for all names."""

    def __init__(self, column):
        super().__init__(f"wrong names at column {column}")
        self.column = column


class BadGroup(TableError):
    """The products are those of no group."""

    def __init__(self, place):
        super().__init__(f"wrong group at place {place}")
        self.place = place


class BadParting(TableError):
    """The entry of a parting at this place is wrong; -1 stands for the whole."""

    def __init__(self, place):
        super().__init__(f"wrong parting at place {place}")
        self.place = place


class BadBlocks(TableError):
    """The chosen signs or the blocks of this column are wrong."""

    def __init__(self, column):
        super().__init__(f"wrong signs or blocks at column {column}")
        self.column = column


class BadText(TableError):
    """This line of a text is wrong."""

    def __init__(self, line):
        super().__init__(f"wrong line {line}")
        self.line = line


class OtherSigns(TableError):
    """The numbers of signs differ."""

    def __init__(self, signs):
        super().__init__(f"another number of signs: {signs}")
        self.signs = signs


class OtherColumns(TableError):
    """The numbers of columns differ."""

    def __init__(self, columns):
        super().__init__(f"another number of columns: {columns}")
        self.columns = columns


class NoRow(TableError):
    """What was passed is no row of the table."""

    def __init__(self, row):
        # the row may be anything, so it is not written into the message
        super().__init__("no row of the table")
        self.row = row


class NotFair(TableError):
    """The table is not fair; lot is its first circuit that is no Latin cube."""

    def __init__(self, lot):
        super().__init__(f"not fair at the lot {lot}")
        self.lot = lot


class NotWhole(TableError):
    """The table does not hang together."""

    def __init__(self, lot):
        super().__init__(f"not whole: the lot {lot} hangs by itself")
        self.lot = lot


class NotCut(TableError):
    """The lot is no side of a cut."""

    def __init__(self, lot):
        super().__init__(f"no side of a cut: {lot}")
        self.lot = lot


class NotSplit(TableError):
    """The cut does not split."""

    def __init__(self, lot):
        super().__init__(f"no side of a split: {lot}")
        self.lot = lot


class OtherShape(TableError):
    """A table has not the shape that is asked for."""

    def __init__(self, word):
        super().__init__(f"another shape: {word}")
        self.word = word


class Loose(TableError):
    """A column is fixed, or not told by the others of its table."""

    def __init__(self, column):
        super().__init__(f"loose column {column}")
        self.column = column


class TooMany(TableError):
    """There would be more results than the limit."""

    def __init__(self, limit):
        super().__init__(f"more than {limit}")
        self.limit = limit


class BadDeed(TableError):
    """A deed cannot be done."""

    def __init__(self, name):
        super().__init__(f"wrong deed: {name}")
        self.name = name
