"""Tables as texts."""

from toldorfree.checks import MOST_COLUMNS, MOST_ROWS, MOST_SIGNS
from toldorfree.errors import BadRow, BadText
from toldorfree.tables import Table


def table_text(table):
    """The text of the table."""
    lines = [first_line(table.signs, table.columns)]
    for row in table.rows:
        lines.append(" ".join([str(sign) for sign in row]))
    return "\n".join(lines)


def first_line(signs, columns):
    """The first line of the text of a table of so many signs and columns."""
    return f"signs {signs} columns {columns}"


def sizes_in(line):
    """The numbers of signs and columns in the first line of a text, None if it is wrong."""
    for signs in range(2, MOST_SIGNS + 1):
        for columns in range(1, MOST_COLUMNS + 1):
            if line == first_line(signs, columns):
                return (signs, columns)
    return None


def row_in(line, signs, columns):
    """The row in the line, None if there is none."""
    known = {str(sign): sign for sign in range(signs)}
    words = line.split(" ")
    if len(words) != columns or not all([word in known for word in words]):
        return None
    return tuple([known[word] for word in words])


def table_from(text):
    """The table that the text describes."""
    if not isinstance(text, str):
        raise BadText(0)
    lines = text.split("\n")
    sizes = sizes_in(lines[0])
    if sizes is None:
        raise BadText(0)
    if len(lines) == 1:
        raise BadText(1) from BadRow(-1)
    signs, columns = sizes
    rows = {}
    for number, line in enumerate(lines[1:], start=1):
        row = row_in(line, signs, columns)
        if number > MOST_ROWS or row is None or row in rows:
            raise BadText(number) from BadRow(number - 1)
        rows[row] = True
    return Table(signs, list(rows))
