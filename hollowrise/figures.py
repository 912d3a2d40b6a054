"""How many figures numbers have: what is too long is refused without being worked out first."""

from hollowrise.errors import TooGreat
from hollowrise.fractions import power, times

MOST_FIGURES = 1000
# The least number of a thousand and one figures is above 2 to this, and below 2 to one more.
LONG_BITS = 3321


def is_long(number):
    """True of a whole number of more than a thousand figures."""
    bits = number.bit_length()
    # Twice what most numbers tell at once.
    if bits != LONG_BITS + 1:
        return bits > LONG_BITS
    bound, _ = power((10, 1), MOST_FIGURES)
    return abs(number) >= bound


def need_short(one):
    """None, or TooGreat of a FRACTION with a number of more than a thousand figures."""
    above, below = one
    if is_long(above) or is_long(below):
        raise TooGreat(MOST_FIGURES)


def short_power(one, number):
    """A FRACTION but 0 to a whole number; TooGreat where a number of that has more than a thousand figures."""
    told = power_within(one, number, LONG_BITS)
    need_short(told)
    return told


def short_product(worth, one, number):
    """A FRACTION times another one, but 0, to a whole number; TooGreat likewise."""
    above, below = worth
    # What there is to be divided by makes it shorter by no more bits than it has itself.
    spare = max(above.bit_length(), below.bit_length())
    told = times(worth, power_within(one, number, LONG_BITS + spare))
    need_short(told)
    return told


def power_within(one, number, bits):
    """A FRACTION but 0 to a whole number; TooGreat, ahead of all else, where that surely has more bits."""
    above, below = one
    # A number of so many bits is 2 to one less, at least.
    if abs(number) * (max(above.bit_length(), below.bit_length()) - 1) > bits:
        raise TooGreat(MOST_FIGURES)
    return power(one, number)
