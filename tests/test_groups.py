"""Groups: [29] and the section toldorfree/groups.py."""

import unittest
from itertools import combinations, permutations, product

from tests.asking import Asking
from tests.samples import FOUR, GROUPS, KLEIN, NO_INTEGERS, NO_LISTS
from toldorfree.errors import BadGroup, BadLot, BadNumber
from toldorfree.groups import Group

TWELVE = {"12": Group.sums(12), "2x6": Group.sums(2) * Group.sums(6), "2xturns": Group.sums(2) * Group.turns()}


def relabelled(group, order):
    """The group with the element order[x] in the place of x."""
    lines = [[0] * group.size for _ in range(group.size)]
    for x, y in product(range(group.size), repeat=2):
        lines[order[x]][order[y]] = order[group.products[x][y]]
    return Group(lines)


def even_permutations():
    """The group of the twelve even permutations of four places."""
    found = [order for order in permutations(range(4))
             if sum(order[x] > order[y] for x, y in combinations(range(4), 2)) % 2 == 0]
    return Group([[found.index(tuple(one[place] for place in other)) for other in found] for one in found])


SOME = dict(GROUPS, **TWELVE, **{
    "8": Group.sums(8), "2x4": Group.sums(2) * FOUR, "2x2x2": KLEIN * Group.sums(2), "9": Group.sums(9), "7": Group.sums(7),
    "3x3": Group.sums(3) * Group.sums(3), "moved": relabelled(Group.turns(), (3, 5, 0, 1, 4, 2)),
    "moved4": relabelled(FOUR, (2, 0, 3, 1)), "even": even_permutations()})


def plain_subgroups(group):
    found = []
    for size in range(1, group.size + 1):
        if group.size % size == 0:
            for lot in combinations(range(group.size), size):
                if group.unit in lot and all(group.products[x][y] in lot for x in lot for y in lot):
                    found.append(lot)
    return tuple(found)


def plain_isomorphisms(one, other):
    return tuple(f for f in permutations(range(one.size))
                 if all(f[one.products[x][y]] == other.products[f[x]][f[y]]
                        for x in range(one.size) for y in range(one.size)))


class MakingTest(Asking):
    def test_attributes(self):
        group = Group([[1, 0], (0, 1)])
        self.assertEqual((group.size, group.products, group.unit), (2, ((1, 0), (0, 1)), 1))
        self.is_tuples(group.products)
        self.assertEqual(Group(((0, 1, 2), [1, 2, 0], (2, 0, 1))), Group.sums(3))

    def test_a_list_changed_later(self):
        line = [0, 1]
        products = [line, [1, 0]]
        group = Group(products)
        line[0] = 1
        products.pop()
        self.assertEqual(group.products, ((0, 1), (1, 0)))
        self.assertEqual(products, [[1, 1]])

    def test_no_table_of_products(self):
        for products in NO_LISTS + ([], (), [(0,)], [tuple(range(13))] * 13):
            self.wrong(BadGroup, "place", -1, Group, products)
        for line in NO_LISTS + ((), (0,), (0, 0), (0, 2), (0, 1, 2), (False, 1), (0, 1.0), (-1, 0), ([0], 1)):
            self.wrong(BadGroup, "place", 0, Group, [line, 3])
            self.wrong(BadGroup, "place", 1, Group, [(1, 0), line])
        self.wrong(BadGroup, "place", 1, Group, [(0, 1), (0, 1)])
        self.wrong(BadGroup, "place", 1, Group, [(0, 1), (1, 0, 1)])
        self.wrong(BadGroup, "place", 2, Group, [(0, 1, 2), (1, 2, 0), (2, 1, 0)])
        self.wrong(BadGroup, "place", 2, Group, [(0, 1, 2), (1, 2, 0), (0, 1, 2)])

    def test_not_associative(self):
        self.wrong(BadGroup, "place", 3, Group, [(0, 2, 1), (2, 1, 0), (1, 0, 2)])
        five = [(0, 1, 2, 3, 4), (1, 0, 3, 4, 2), (2, 4, 0, 1, 3), (3, 2, 4, 0, 1), (4, 3, 1, 2, 0)]
        self.wrong(BadGroup, "place", 5, Group, five)
        self.wrong(BadGroup, "place", 12, Group, [[(x - y) % 12 for y in range(12)] for x in range(12)])

    def test_sums(self):
        for size in range(2, 13):
            group = Group.sums(size)
            self.assertEqual(group.products, tuple(tuple((x + y) % size for y in range(size)) for x in range(size)))
            self.assertEqual((group.size, group.unit), (size, 0))
        for size in NO_INTEGERS + (0, 1, 13, -3):
            self.wrong(BadNumber, "name", "size", Group.sums, size)

    def test_turns(self):
        turns = list(permutations(range(3)))
        group = Group.turns()
        self.assertEqual(group.size, 6)
        for x, y in product(range(6), repeat=2):
            self.assertEqual(turns[group.times(x, y)], tuple(turns[x][turns[y][i]] for i in range(3)))

    def test_pairs(self):
        one, other = Group.sums(3), FOUR
        both = one * other
        self.assertEqual(both.size, 12)
        for x, v, y, w in product(range(3), range(4), range(3), range(4)):
            self.assertEqual(both.times(x * 4 + v, y * 4 + w), one.times(x, y) * 4 + other.times(v, w))
        self.assertEqual(KLEIN.products, ((0, 1, 2, 3), (1, 0, 3, 2), (2, 3, 0, 1), (3, 2, 1, 0)))
        self.wrong(BadNumber, "name", "size", lambda: FOUR * FOUR)
        self.wrong(BadNumber, "name", "size", lambda: Group.sums(2) * Group.sums(7))
        with self.assertRaises(TypeError):
            FOUR * 2

    def test_equal(self):
        self.assertTrue(FOUR == Group(FOUR.products))
        self.assertFalse(FOUR == KLEIN)
        self.assertTrue(FOUR != relabelled(FOUR, (1, 0, 2, 3)))
        for value in (FOUR.products, None, 4):
            self.assertIs(FOUR == value, False)


class ElementsTest(Asking):
    def test_products(self):
        for group in SOME.values():
            size = range(group.size)
            for x, y in product(size, repeat=2):
                self.assertEqual(group.times(x, y), group.products[x][y])
                self.assertEqual(group.product_of([x, y]), group.times(x, y))
                self.assertEqual(group.product_of((x, y, x)), group.times(group.times(x, y), x))
            for x in size:
                self.assertEqual((group.times(group.unit, x), group.times(x, group.unit)), (x, x))
                self.assertEqual(group.times(x, group.inverse(x)), group.unit)
                self.assertEqual(group.times(group.inverse(x), x), group.unit)
                powers = {group.unit}
                while len(powers) < len(powers | {group.times(p, x) for p in powers}):
                    powers |= {group.times(p, x) for p in powers}
                self.assertEqual(group.order_of(x), len(powers))
            self.assertEqual(group.product_of(()), group.unit)
            self.assertEqual(group.product_of([]), group.unit)

    def test_unit_that_is_not_zero(self):
        self.assertEqual(SOME["moved"].unit, 3)
        self.assertEqual(SOME["moved4"].unit, 2)
        self.assertEqual(SOME["moved4"].product_of([]), 2)

    def test_wrong_elements(self):
        for value in NO_INTEGERS + (-1, 4):
            self.wrong(BadNumber, "name", "element", KLEIN.times, value, 0)
            self.wrong(BadNumber, "name", "element", KLEIN.times, 0, value)
            self.wrong(BadNumber, "name", "element", KLEIN.inverse, value)
            self.wrong(BadNumber, "name", "element", KLEIN.order_of, value)
            self.wrong(BadNumber, "name", "element", KLEIN.product_of, [0, value])
        for value in NO_LISTS:
            self.wrong(BadNumber, "name", "element", KLEIN.product_of, value)


class SubgroupsTest(Asking):
    def test_subgroups(self):
        for group in SOME.values():
            wanted = plain_subgroups(group)
            self.assertEqual(group.subgroups(), wanted)
            self.is_tuples(group.subgroups())
            normal = tuple(lot for lot in wanted if all({group.times(x, y) for y in lot} == {group.times(y, x) for y in lot}
                                                        for x in range(group.size)))
            self.assertEqual(group.normal_subgroups(), normal)
            for lot in wanted:
                self.assertIs(group.is_normal(list(lot[::-1])), lot in normal)

    def test_numbers_of_subgroups(self):
        many = {"2": 2, "3": 2, "4": 3, "klein": 5, "5": 2, "6": 4, "turns": 6, "even": 10, "2x2x2": 16}
        for name, number in many.items():
            self.assertEqual(len(SOME[name].subgroups()), number)
        self.assertEqual(Group.turns().normal_subgroups(), ((0,), (0, 3, 4), (0, 1, 2, 3, 4, 5)))

    def test_generated(self):
        for group in SOME.values():
            subgroups = plain_subgroups(group)
            for lot in list(combinations(range(group.size), 2)) + [(), (0,), (group.size - 1,)]:
                wanted = [sub for sub in subgroups if set(lot) <= set(sub)][0]
                self.assertEqual(group.generated(lot[::-1]), wanted)
        self.assertEqual(SOME["moved"].generated([]), (3,))
        self.assertEqual(Group.sums(12).generated([8, 6]), (0, 2, 4, 6, 8, 10))

    def test_wrong_lots(self):
        for group in (Group.sums(2), FOUR, TWELVE["12"]):
            self.wrong_lots(group.size, group.generated)
            self.wrong_lots(group.size, group.is_normal)
        for lot in ((), (1,), (0, 1), (0, 1, 2), (2,)):
            self.wrong(BadLot, "place", -1, FOUR.is_normal, lot)

    def test_commutators(self):
        for group in SOME.values():
            some = {group.product_of((x, y, group.inverse(x), group.inverse(y)))
                    for x in range(group.size) for y in range(group.size)}
            wanted = [lot for lot in plain_subgroups(group) if some <= set(lot)][0]
            self.assertEqual(group.commutators(), wanted)
            self.assertTrue(group.is_normal(wanted))
            self.assertEqual(wanted == (group.unit,), group.is_abelian())
        self.assertEqual(Group.turns().commutators(), (0, 3, 4))
        self.assertEqual(len(SOME["even"].commutators()), 4)

    def test_kinds_of_groups(self):
        for name, group in SOME.items():
            self.assertIs(group.is_abelian(), name not in ("turns", "moved", "2xturns", "even"))
            self.assertIs(group.has_exponent_two(), name in ("2", "klein", "2x2x2"))


class IsomorphismsTest(Asking):
    def test_automorphisms(self):
        for group in SOME.values():
            if group.size <= 7:
                self.assertEqual(group.automorphisms(), plain_isomorphisms(group, group))
        many = {"2": 1, "3": 2, "4": 2, "klein": 6, "5": 4, "6": 2, "turns": 6, "8": 4, "2x4": 8, "2x2x2": 168, "9": 6,
                "3x3": 48, "12": 4, "2x6": 12, "2xturns": 12, "even": 24, "7": 6, "moved": 6}
        for name, number in many.items():
            found = SOME[name].automorphisms()
            self.assertEqual(len(found), number)
            self.assertEqual(list(found), sorted(set(found)))
            self.is_tuples(found)

    def test_automorphisms_go_together(self):
        for name in ("klein", "turns", "2x4", "even"):
            found = set(SOME[name].automorphisms())
            self.assertIn(tuple(range(SOME[name].size)), found)
            for f in found:
                self.assertIn(tuple(sorted(range(len(f)), key=f.__getitem__)), found)
                for g in list(found)[:8]:
                    self.assertIn(tuple(f[g[x]] for x in range(len(f))), found)

    def test_isomorphism_to(self):
        for one in SOME.values():
            for other in SOME.values():
                found = one.isomorphism_to(other)
                if one.size != other.size:
                    self.assertIsNone(found)
                elif one.size <= 6:
                    self.assertEqual(found, (plain_isomorphisms(one, other) + (None,))[0])
                elif found is not None:
                    self.assertTrue(all(found[one.times(x, y)] == other.times(found[x], found[y])
                                        for x in range(one.size) for y in range(one.size)))
        twelve = list(TWELVE.values()) + [SOME["even"]]
        for one, other in product(range(4), repeat=2):
            self.assertEqual(twelve[one].isomorphism_to(twelve[other]) is not None, one == other)
        self.assertEqual(Group.sums(3).isomorphism_to(Group.sums(3)), (0, 1, 2))
        self.assertIsNotNone(Group.sums(6).isomorphism_to(Group.sums(2) * Group.sums(3)))

    def test_all_groups_of_small_size(self):
        # every group is, up to its labels, one with the unit 0: so all of these are gone through
        known = {2: ["2"], 3: ["3"], 4: ["4", "klein"], 5: ["5"], 6: ["6", "turns"]}
        numbers = {2: 1, 3: 1, 4: 4, 5: 6, 6: 80}
        for size, names in known.items():
            found = 0
            for lines in squares_with_unit_zero(size):
                if all(lines[lines[x][y]][z] == lines[x][lines[y][z]] for x, y, z in product(range(size), repeat=3)):
                    group = Group(lines)
                    found += 1
                    self.assertEqual(sum(group.isomorphism_to(GROUPS[name]) is not None for name in names), 1)
            self.assertEqual(found, numbers[size])

    def test_example(self):
        turns = Group.turns()
        self.assertEqual([turns.times(1, 2), turns.times(2, 1), turns.commutators()], [4, 3, (0, 3, 4)])


def squares_with_unit_zero(size):
    """All squares of so many signs whose first line and column ascend."""
    found = [[tuple(range(size))]]
    for x in range(1, size):
        lines = [line for line in permutations(range(size)) if line[0] == x and all(line[y] != y for y in range(1, size))]
        found = [begun + [line] for begun in found for line in lines
                 if all(line[y] != other[y] for other in begun for y in range(size))]
    return found


if __name__ == "__main__":
    unittest.main()
