"""Glues of two rings that are rings, and the symmetries of a glue."""

from toldorfree.checks import is_permutation
from toldorfree.errors import BadGroup, BadNames
from toldorfree.glue import glued
from toldorfree.groups import isomorphisms
from toldorfree.naming import names_after, undone
from toldorfree.symmetries import symmetries_of


def check_same_size(one, other):
    """Raise BadGroup unless the groups have one size."""
    if other.size != one.size:
        raise BadGroup(other.size)


def ring_names(one, other):
    """The names by which the glue of the ring tables of two groups has one piece, ascending."""
    check_same_size(one, other)
    found = {}
    for images in isomorphisms(one, other):
        turned = [images[one.inverse(x)] for x in range(one.size)]
        for line in other.products:
            found[tuple([line[image] for image in images])] = True
            found[tuple([line[image] for image in turned])] = True
    return tuple(sorted(list(found)))


def glue_gives_ring(one, other, names):
    """Whether the glue of the ring tables of two groups by names has one piece."""
    if not is_permutation(names, one.size):
        raise BadNames(-1)
    return tuple(names) in ring_names(one, other)


def glue_symmetries(one, column, other, second, *, names=None):
    """The number of symmetries of the glue of two tables, by those of the two."""
    glued(one, column, other, second, names=names)
    called = tuple(range(one.signs)) if names is None else tuple(names)
    early = times_done(one, column)
    late = times_done(other, second)
    found = 0
    for done in early:
        # what does at the second column, called by names, what done does at the first one
        there = names_after((called,), names_after((done,), (undone(called),)))[0]
        found += early[done] * late.get(there, 0)
    return found


def times_done(table, column):
    """How many symmetries of the table do each permutation at the column, by permutations."""
    found = {}
    for symmetry in symmetries_of(table):
        done = symmetry.names[column]
        found[done] = found.get(done, 0) + 1
    return found
