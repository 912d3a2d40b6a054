"""FRACTIONS: pairs (ABOVE, BELOW) in lowest terms, BELOW from 1 on."""

from math import gcd

from hollowrise.errors import BadFraction
from hollowrise.kinds import is_tuple_of, is_whole


def is_fraction(thing):
    """True of a FRACTION, of anything."""
    if not is_tuple_of(thing, 2):
        return False
    above, below = thing
    if not is_whole(above) or not is_whole(below):
        return False
    return below >= 1 and gcd(above, below) == 1


def fraction(above, below):
    """The quotient of two whole numbers; BadFraction of 0 below."""
    if below == 0:
        raise BadFraction("nothing is divided by nought")
    if below < 0:
        above, below = -above, -below
    shared = gcd(above, below)
    return (above // shared, below // shared)


def plus(one, other):
    """One FRACTION and the other together."""
    above, below = one
    other_above, other_below = other
    shared = gcd(below, other_below)
    if shared == 1:
        return (above * other_below + other_above * below, below * other_below)
    part = below // shared
    whole = above * (other_below // shared) + other_above * part
    # Only by what the BELOWS share can the sum still be reduced: that is shorter than their product.
    common = gcd(whole, shared)
    return (whole // common, part * (other_below // common))


def less(one, other):
    """One FRACTION less the other."""
    return plus(one, (-other[0], other[1]))


def times(one, other):
    """One FRACTION times the other."""
    above, below = one
    other_above, other_below = other
    # Both are in lowest terms, so the product is reduced crosswise: by shorter numbers than it has itself.
    first = gcd(above, other_below)
    second = gcd(other_above, below)
    return ((above // first) * (other_above // second), (below // second) * (other_below // first))


def so_many(one, number):
    """One FRACTION times a whole number."""
    above, below = one
    shared = gcd(number, below)
    return (above * (number // shared), below // shared)


def by(one, other):
    """One FRACTION divided by the other; BadFraction by nought."""
    above, below = other
    if above == 0:
        raise BadFraction("nothing is divided by nought")
    if above < 0:
        return times(one, (-below, -above))
    return times(one, (below, above))


def power(one, number):
    """A FRACTION to a whole number; BadFraction of nought to one below 0."""
    if number < 0:
        return power(by((1, 1), one), -number)
    above, below = one
    return (_whole_power(above, number), _whole_power(below, number))


def _whole_power(base, number):
    """By squares: 1, -1 and 0 may be taken to a number of a thousand figures."""
    product = 1
    while number > 0:
        if number & 1:
            product = product * base
        number = number >> 1
        if number > 0:
            base = base * base
    return product
