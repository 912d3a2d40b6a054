"""SUMS of letters multiplied.

POWERS are told in two other ways here: as one whole number, with digits of its own for each SPOT, as to multiply POWERS
is to put these numbers together; and as codes, a whole number for each SPOT and its POWER, that rise as those do.
"""

from hollowrise.errors import TooGreat
from hollowrise.fields import MOST_SIDE

MOST_POWER = 99
# Of two POWERS both together are no farther from 0 than 198, so that by so many bits all can be told apart.
BITS = 9
MIDDLE = 256
LOW = 511


def multiplied(one, other, most):
    """Both good SUMS multiplied; TooGreat(most) of more rows, or of a POWER beyond 99 in a row that is left."""
    pairs = {}
    ones = [_letters_of(powers, pairs) for powers, _ in one]
    others = [_letters_of(powers, pairs) for powers, _ in other]
    numbers = {}
    # Of each of these two rows by which it comes: it's the same by all such.
    places = {}
    for i, (_, number) in enumerate(one):
        whole = ones[i][0]
        for j, (_, number_other) in enumerate(other):
            both = whole + others[j][0]
            if both in numbers:
                numbers[both] += number * number_other
            else:
                numbers[both] = number * number_other
                places[both] = (i, j)
    left = [both for both in numbers if numbers[both] != 0]
    if len(left) > most:
        raise TooGreat(most)
    rows = []
    for both in left:
        i, j = places[both]
        codes = _codes_together(ones[i], others[j], pairs)
        if codes is None:
            raise TooGreat(most)
        rows.append((codes, numbers[both]))
    return tuple([(tuple([pairs[code] for code in codes]), number) for codes, number in sorted(rows)])


def _letters_of(powers, pairs):
    """(POWERS as one whole number, their SPOTS as bits, their codes); what each code stands for is put to the pairs."""
    whole = 0
    spots = 0
    codes = []
    for pair in powers:
        (x, y), often = pair
        place = MOST_SIDE * x + y
        whole += often << BITS * place
        spots += 1 << place
        code = (place << BITS) + often + MIDDLE
        pairs[code] = pair
        codes.append(code)
    return (whole, spots, tuple(codes))


def _codes_together(one, other, pairs):
    """The codes, rising, of POWERS multiplied; None where one is beyond 99."""
    _, spots, codes = one
    _, spots_other, codes_other = other
    if spots & spots_other == 0:
        return tuple(sorted(codes + codes_other))
    told = []
    place = -1
    for code in sorted(codes + codes_other):
        if code >> BITS != place:
            place = code >> BITS
            told.append(code)
            continue
        # The second one of a SPOT: the first one came right ahead of it.
        often = (told.pop() & LOW) + (code & LOW) - 2 * MIDDLE
        if often > MOST_POWER or often < -MOST_POWER:
            return None
        if often != 0:
            together = (place << BITS) + often + MIDDLE
            if together not in pairs:
                pairs[together] = ((place // MOST_SIDE, place % MOST_SIDE), often)
            told.append(together)
    return tuple(told)
