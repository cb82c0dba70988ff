"""Groups: curves together with a base point."""

from curveseal.errors import NotAPoint, Refused
from curveseal.extended import multiply_extended
from curveseal.jacobian import multiply_jacobian
from curveseal.modular import bezout, join_residues


def _byte_size(number):
    """Return how many bytes a number has."""
    return (number.bit_length() + 7) // 8


class GroupFields:
    """The fields of a group of either kind."""

    def __init__(self, name, kind, curve, base, order, cofactor):
        self.name = name
        self.kind = kind
        self.curve = curve
        self.prime = curve.prime
        self.base = base
        self.order = order
        self.cofactor = cofactor
        self.size = _byte_size(curve.prime)
        self.order_size = _byte_size(order)


class Group(GroupFields):
    """A group of points of a short Weierstrass curve."""

    def __init__(self, name, curve, base, order, cofactor):
        if base is None or not curve.has(base):
            raise NotAPoint("the base is not a point other than infinity")
        if multiply_jacobian(curve, order, base) is not None:
            raise Refused("the order of the base is another one")
        super().__init__(name, "weierstrass", curve, base, order, cofactor)

    def neutral(self):
        """Return the point at infinity."""
        return None

    def has(self, point):
        """Tell whether a value of any kind is a point of the curve."""
        return self.curve.has(point)

    def add(self, first, second):
        """Return the sum of two points."""
        return self.curve.add(first, second)

    def negate(self, point):
        """Return the negative of a point."""
        return self.curve.negate(point)

    def multiply(self, factor, point):
        """Return the multiple of a point by any integer."""
        # Jacobian coordinates need one inverse for all doublings and additions.
        return multiply_jacobian(self.curve, factor, point)

    def lift(self, coordinate, odd):
        """Return the point with this x whose y is odd exactly if odd is True, or None."""
        return self.curve.lift(coordinate, odd)

    def is_small(self, point):
        """Tell whether cofactor times the point is the neutral point."""
        return self.multiply(self.cofactor, point) is None


class EdwardsGroup(GroupFields):
    """A group of points of a twisted Edwards curve."""

    def __init__(self, name, curve, base, order, cofactor):
        if not curve.has(base) or base == (0, 1):
            raise NotAPoint("the base is not a point other than the neutral one")
        if multiply_extended(curve, order, base) != (0, 1):
            raise Refused("the order of the base is another one")
        super().__init__(name, "edwards", curve, base, order, cofactor)

    def neutral(self):
        """Return the neutral point."""
        return (0, 1)

    def has(self, point):
        """Tell whether a value of any kind is a point of the curve."""
        return self.curve.has(point)

    def add(self, first, second):
        """Return the sum of two points."""
        return self.curve.add(first, second)

    def negate(self, point):
        """Return the negative of a point."""
        return self.curve.negate(point)

    def multiply(self, factor, point):
        """Return the multiple of a point by any integer."""
        # Extended coordinates need one inverse for all doublings and additions.
        return multiply_extended(self.curve, factor, point)

    def lift(self, coordinate, odd):
        """Return the point with this y whose x is odd exactly if odd is True, or None."""
        return self.curve.lift(coordinate, odd)

    def is_small(self, point):
        """Tell whether cofactor times the point is the neutral point."""
        return self.multiply(self.cofactor, point) == (0, 1)


def split_point(group, point):
    """Return the small point, and the point of order 1 or the group's order, whose sum is the point."""
    if bezout(group.cofactor, group.order)[0] != 1:
        raise Refused("the cofactor and the order have a common divisor")
    factor = join_residues([(0, group.cofactor), (1, group.order)])
    other = group.multiply(factor, point)
    return group.add(point, group.negate(other)), other
