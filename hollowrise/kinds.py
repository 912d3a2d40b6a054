"""The plain kinds of values that all other files ask for: whole numbers, tuples, RULES."""

from hollowrise.errors import BadRule

MOST_RULE = 9


def is_whole(thing):
    """True of a whole number."""
    # isinstance would let True and False by, and what only claims to be an int.
    return type(thing) is int


def is_tuple_of(thing, many):
    """True of a tuple of just so many things."""
    return type(thing) is tuple and len(thing) == many


def is_rule(thing):
    """True of a RULE: a pair of whole numbers from -9 to 9, none 0."""
    if not is_tuple_of(thing, 2):
        return False
    a, b = thing
    if type(a) is not int or type(b) is not int:
        return False
    return a != 0 and b != 0 and -MOST_RULE <= a <= MOST_RULE and -MOST_RULE <= b <= MOST_RULE


def need_rule(thing):
    """None, or BadRule of anything that is no RULE."""
    if not is_rule(thing):
        raise BadRule("this is no rule")


def is_good(rule):
    """True of a RULE both of whose numbers are above 0."""
    a, b = rule
    return a > 0 and b > 0
