"""Circuit tables, and the product that is read from one of their rows."""

from toldorfree.checks import base_below
from toldorfree.crossing import elements_at, products_at
from toldorfree.errors import OtherShape, TooMany
from toldorfree.fairness import is_latin
from toldorfree.groups import MOST_SIZE, Group, is_associative
from toldorfree.ranks import fair_counts


def check_circuit(table):
    """Raise NotFair, then OtherShape("circuit") unless the table is a circuit table."""
    fair_counts(table)
    if not is_circuit_table(table):
        raise OtherShape("circuit")


def is_circuit_table(table):
    """Whether the table has at least three columns and all of them are a circuit."""
    return table.columns >= 3 and is_latin(table)


def check_few_signs(signs):
    """Raise TooMany if there are more signs than a group can have elements."""
    if signs > MOST_SIZE:
        raise TooMany(MOST_SIZE)


def elements_of(table, *, base=None):
    """The element of each sign at each column but the last."""
    number = base_below(base, len(table.rows))
    check_circuit(table)
    return elements_at(table, number)


def read_product(table, *, base=None):
    """The table of the read product."""
    number = base_below(base, len(table.rows))
    check_circuit(table)
    return products_at(table, number)


def read_group(table, *, base=None):
    """The group of the read product, None if it is not associative."""
    products = read_product(table, base=base)
    check_few_signs(table.signs)
    return Group(products) if is_associative(products) else None
