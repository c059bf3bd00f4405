"""Groups of at most 12 elements, by their tables of products."""

from toldorfree.checks import agree_somewhere, are_signs, is_listed, is_permutation, is_within
from toldorfree.errors import BadGroup, BadLot, BadNumber
from toldorfree.lots import lot_below, lot_key

MOST_SIZE = 12


def check_products(products):
    """Raise BadGroup unless products is the table of products of a group."""
    if not is_listed(products) or not 2 <= len(products) <= MOST_SIZE:
        raise BadGroup(-1)
    size = len(products)
    for place, line in enumerate(products):
        if not is_permutation(line, size) or any([agree_somewhere(line, other) for other in products[:place]]):
            raise BadGroup(place)
    if not is_associative(products):
        raise BadGroup(size)


def is_associative(products):
    """Whether (x*y)*z = x*(y*z) for all x, y, z."""
    size = range(len(products))
    return all([products[products[x][y]][z] == products[x][products[y][z]] for x in size for y in size for z in size])


class Group:
    """The group with the product products[x][y] of x and y."""

    def __init__(self, products):
        check_products(products)
        self.size = len(products)
        self.products = tuple([tuple(line) for line in products])

    @property
    def unit(self):
        """The element that changes none."""
        return self.products.index(tuple(range(self.size)))

    @classmethod
    def sums(cls, size):
        """The group of the sums mod size."""
        if not is_within(size, 2, MOST_SIZE):
            raise BadNumber("size")
        return cls([tuple([(x + y) % size for y in range(size)]) for x in range(size)])

    @classmethod
    def turns(cls):
        """The group of the permutations of 0, 1, 2, numbered in ascending order."""
        orders = [(x, y, 3 - x - y) for x in range(3) for y in range(3) if x != y]
        return cls([[orders.index(tuple([late[place] for place in early])) for early in orders] for late in orders])

    def check_element(self, one):
        """Raise BadNumber("element") unless one is an element."""
        if not is_within(one, 0, self.size - 1):
            raise BadNumber("element")

    def times(self, one, other):
        """The product one*other."""
        self.check_element(one)
        self.check_element(other)
        return self.products[one][other]

    def inverse(self, one):
        """The element whose product with one is the unit."""
        self.check_element(one)
        return self.products[one].index(self.unit)

    def order_of(self, one):
        """How many elements the least subgroup with one has."""
        self.check_element(one)
        return len(self.generated((one,)))

    def product_of(self, factors):
        """The product of the factors in their order."""
        if not are_signs(factors, self.size):
            raise BadNumber("element")
        found = self.unit
        for factor in factors:
            found = self.products[found][factor]
        return found

    def generated(self, lot):
        """The least subgroup that has the elements of lot."""
        makers = lot_below(lot, self.size)
        found = [self.unit]
        at = 0
        while at < len(found):
            for maker in makers:
                product = self.products[found[at]][maker]
                if product not in found:
                    found.append(product)
            at += 1
        return tuple(sorted(found))

    def is_normal(self, lot):
        """Whether the subgroup lot is normal."""
        found = lot_below(lot, self.size)
        if self.generated(found) != found:
            raise BadLot(-1)
        return all([sorted([self.products[x][y] for y in found]) == sorted([self.products[y][x] for y in found])
                    for x in range(self.size)])

    def subgroups(self):
        """All subgroups, in lot order."""
        found = {(self.unit,): True}
        queue = [(self.unit,)]
        while queue:
            lot = queue.pop()
            for x in range(self.size):
                if x not in lot:
                    larger = self.generated(lot + (x,))
                    if larger not in found:
                        found[larger] = True
                        queue.append(larger)
        return tuple(sorted(list(found), key=lot_key))

    def normal_subgroups(self):
        """All normal subgroups, in lot order."""
        return tuple([lot for lot in self.subgroups() if self.is_normal(lot)])

    def commutators(self):
        """The least subgroup with all x*y*inverse(x)*inverse(y)."""
        found = {}
        for x in range(self.size):
            for y in range(self.size):
                found[self.product_of((x, y, self.inverse(x), self.inverse(y)))] = True
        return self.generated(list(found))

    def is_abelian(self):
        """Whether x*y = y*x for all x, y."""
        size = range(self.size)
        return all([self.products[x][y] == self.products[y][x] for x in size for y in size])

    def has_exponent_two(self):
        """Whether x*x is the unit for all x."""
        return all([self.products[x][x] == self.unit for x in range(self.size)])

    def automorphisms(self):
        """All automorphisms, ascending."""
        return tuple(isomorphisms(self, self))

    def isomorphism_to(self, other):
        """The least isomorphism to other, None if there is none."""
        found = isomorphisms(self, other)
        return found[0] if found else None

    def __mul__(self, other):
        if not isinstance(other, Group):
            return NotImplemented
        if self.size * other.size > MOST_SIZE:
            raise BadNumber("size")
        return Group([[self.products[x][y] * other.size + other.products[v][w]
                       for y in range(self.size) for w in range(other.size)]
                      for x in range(self.size) for v in range(other.size)])

    def __eq__(self, other):
        return isinstance(other, Group) and self.products == other.products


def isomorphisms(one, other):
    """All isomorphisms from one group to another, ascending."""
    if one.size != other.size:
        return []
    found = []
    extend_images(one, other, [None] * one.size, found)
    return found


def extend_images(one, other, images, found):
    """Put all isomorphisms into found that go on from images, None where an element has none yet."""
    if None not in images:
        found.append(tuple(images))
        return
    # all elements before the first open one have their images, so what is found ascends
    at = images.index(None)
    for image in range(other.size):
        if image not in images:
            trial = list(images)
            trial[at] = image
            if spread_images(one, other, trial):
                extend_images(one, other, trial, found)


def spread_images(one, other, images):
    """Give images to the products of elements that have some; whether they agree."""
    queue = [x for x in range(one.size) if images[x] is not None]
    while queue:
        x = queue.pop()
        known = [y for y in range(one.size) if images[y] is not None]
        for first, second in [(x, y) for y in known] + [(y, x) for y in known]:
            product = one.products[first][second]
            image = other.products[images[first]][images[second]]
            if images[product] is None and image not in images:
                images[product] = image
                queue.append(product)
            elif images[product] != image:
                return False
    return True
