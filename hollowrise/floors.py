"""FLOORS of small stones, the PAIRINGS of FLAT FIELDS that they are, FLIPS and LIFTS."""

from hollowrise.diamonds import (
    MOST_ORDER, cells_by_rows, half_of, is_even, need_floor, need_order, spots_by_rows, ways_on, words_of)
from hollowrise.errors import BadFloor, BadLifts, BadOrder, NoFlip, TooGreat
from hollowrise.fields import around
from hollowrise.flats import order_of
from hollowrise.kinds import is_tuple_of, is_whole
from hollowrise.pairings import need_pairing_on

MOST_NUMBERED = 6
MOST_LISTED = 4
MOST_FLOORS = 4096


def is_floor(thing):
    """True of a FLOOR, of anything."""
    try:
        need_floor(thing)
    except BadFloor:
        return False
    return True


def floor_order(floor):
    """The ORDER of a FLOOR."""
    need_floor(floor)
    return len(floor) // 2


def floor_of(field, target, pairing):
    """The FLOOR that a PAIRING of a FLAT FIELD is; BadTarget, also of N below 2, BadPairing."""
    order = order_of(field, target)
    need_pairing_on(field[0], target, pairing)
    letters = [[""] * (2 * half_of(order, row)) for row in range(2 * order)]
    for (x, y), (_, y_other) in pairing:
        if y == y_other:
            stone = ((x, y - 1, "n"), (x, y, "s"))
        else:
            stone = ((x - 1, y, "e"), (x, y, "w"))
        for x_corner, y_corner, letter in stone:
            row = y_corner - target[1] + order
            letters[row][x_corner - target[0] + half_of(order, row)] = letter
    return tuple(["".join(row) for row in letters])


def pairing_by(field, target, floor):
    """The PAIRING of a FLAT FIELD that a FLOOR is; BadTarget, also of N below 2, BadFloor."""
    order = order_of(field, target)
    need_floor(floor)
    if len(floor) != 2 * order:
        raise BadFloor(None)
    ties = []
    for row, text in enumerate(floor):
        # Where the CORNER lies that is the row's first cell.
        west = target[0] - half_of(order, row)
        north = target[1] + row - order + 1
        for cell, letter in enumerate(text):
            if letter == "e":
                ties.append(((west + cell + 1, north - 1), (west + cell + 1, north)))
            elif letter == "n":
                ties.append(((west + cell, north), (west + cell + 1, north)))
    return tuple(sorted(ties))


def lowest_floor(order):
    """The FLOOR in which all stones lie; BadOrder."""
    need_order(order, MOST_ORDER)
    return tuple(["ew" * half_of(order, row) for row in range(2 * order)])


def highest_floor(order):
    """The FLOOR in which all stones stand; BadOrder."""
    need_order(order, MOST_ORDER)
    rows = []
    for row in range(2 * order):
        # In each column stone stands on stone, from its southern end on: that is as far north as it is to the side.
        east = ["ns"[(row - place) % 2] for place in range(half_of(order, row))]
        rows.append("".join(east[::-1] + east))
    return tuple(rows)


def floors(order):
    """A list of all FLOORS of an ORDER, rising; BadOrder, TooGreat of more than 4096."""
    need_order(order, MOST_ORDER)
    if order > MOST_LISTED:
        raise TooGreat(MOST_FLOORS)
    told = [((), 0)]
    for row, ways in enumerate(ways_on(order)):
        found = []
        for floor, below in told:
            found.extend([(floor + (text,), up) for text, up in words_of(order, row, below) if up in ways])
        told = found
    return [floor for floor, _ in told]


def lifts_of(floor):
    """The LIFTS of a FLOOR: rows from the south, INNER SPOTS from west to east."""
    need_floor(floor)
    return _lifts_of(floor)


def floor_by(lifts):
    """The FLOOR that has these LIFTS; BadLifts."""
    _need_lifts(lifts)
    return _floor_by(lifts)


def lift_sum(floor):
    """All LIFTS of a FLOOR together."""
    need_floor(floor)
    return sum([sum(row) for row in _lifts_of(floor)])


def standing(floor):
    """How many stones stand."""
    need_floor(floor)
    return sum([text.count("n") for text in floor])


def flips(floor):
    """A rising tuple of (SPOT, "rise" or "fall") of all FLIPS."""
    need_floor(floor)
    order = len(floor) // 2
    told = []
    for (u, v), south, north in cells_by_rows(floor):
        for place in range(len(south) - 1):
            stands = _do_stand(south[place:place + 2], north[place:place + 2])
            if stands is not None:
                spot = (u + place, v)
                # What lies at an EVEN SPOT comes to stand, what stands at an ODD one to lie.
                told.append((spot, "fall" if stands == is_even(spot, order) else "rise"))
    return tuple(sorted(told))


def flipped(floor, spot):
    """The FLOOR behind the FLIP at a SPOT (U, V); NoFlip."""
    need_floor(floor)
    order = len(floor) // 2
    if not _is_inner(spot, order):
        raise NoFlip(spot)
    u, v = spot
    row = v + order - 1
    south = u - 1 + half_of(order, row)
    north = u - 1 + half_of(order, row + 1)
    stands = _do_stand(floor[row][south:south + 2], floor[row + 1][north:north + 2])
    if stands is None:
        raise NoFlip(spot)
    stones = ("ew", "ew") if stands else ("nn", "ss")
    rows = (_with_two(floor[row], south, stones[0]), _with_two(floor[row + 1], north, stones[1]))
    return floor[:row] + rows + floor[row + 2:]


def lesser_floor(one, other):
    """The FLOOR with the less of both LIFTS at each SPOT."""
    _need_both(one, other)
    return _floor_by(_lifts_by(one, other, lambda lift, lift_other: min(lift, lift_other)))


def greater_floor(one, other):
    """The FLOOR with the more of both LIFTS at each SPOT."""
    _need_both(one, other)
    return _floor_by(_lifts_by(one, other, lambda lift, lift_other: max(lift, lift_other)))


def apart_floors(one, other):
    """How many FLIPS it takes from one FLOOR to the other."""
    _need_both(one, other)
    return sum([sum(row) for row in _lifts_by(one, other, lambda lift, lift_other: abs(lift - lift_other))])


def first_flips(one, other):
    """The first row of as few FLIPS as lead from one FLOOR to the other: a tuple of SPOTS (U, V)."""
    _need_both(one, other)
    order = len(one) // 2
    lifts = _lifts_by_spots(one)
    last = _lifts_by_spots(other)
    left = [spot for spot in sorted(last) if lifts[spot] != last[spot]]
    told = []
    number = 0
    while left:
        spot = left[number]
        lift = lifts[spot] + (1 if last[spot] > lifts[spot] else -1)
        if not _fits(lifts, spot, lift, order):
            number += 1
            continue
        told.append(spot)
        lifts[spot] = lift
        if lift == last[spot]:
            del left[number]
        # Of those ahead that couldn't be FLIPPED just its NEIGHBOURS may have come to.
        while number > 0 and left[number - 1] >= (spot[0] - 1, spot[1]):
            number -= 1
    return tuple(told)


def floor_powers(floor):
    """Rows, as those of LIFTS, of the POWERS: 1 less how many stones lie between two cells at the SPOT."""
    need_floor(floor)
    told = []
    for _, south, north in cells_by_rows(floor):
        row = []
        for place in range(len(south) - 1):
            # To the west, or the south, of it lies one by the letter of its south-western cell, and so on.
            row.append(1 - (south[place] in "en") - (south[place + 1] == "n") - (north[place] == "e"))
        told.append(tuple(row))
    return tuple(told)


def by_number(order, number):
    """The FLOOR of a number, as they rise; BadOrder of ORDERS above 6, and of no such number."""
    need_order(order, MOST_NUMBERED)
    if not is_whole(number) or not 0 <= number < 1 << order * (order + 1) // 2:
        raise BadOrder("there is no floor of this number")
    rows = []
    below = 0
    for row, ways in enumerate(ways_on(order)):
        for text, up in words_of(order, row, below):
            many = ways.get(up, 0)
            if number < many:
                rows.append(text)
                below = up
                break
            number -= many
    return tuple(rows)


def number_by(floor):
    """The number of a FLOOR; BadOrder of ORDERS above 6."""
    need_floor(floor)
    order = len(floor) // 2
    need_order(order, MOST_NUMBERED)
    number = 0
    below = 0
    for row, ways in enumerate(ways_on(order)):
        for text, up in words_of(order, row, below):
            if text == floor[row]:
                below = up
                break
            number += ways.get(up, 0)
    return number


def _need_both(one, other):
    """None, or BadFloor of what are no two FLOORS of one ORDER."""
    need_floor(one)
    need_floor(other)
    if len(one) != len(other):
        raise BadFloor(None)


def _lifts_of(floor):
    """As lifts_of, of a good FLOOR."""
    order = len(floor) // 2
    told = []
    for spot, south, _ in cells_by_rows(floor):
        # EVEN and ODD SPOTS come by turns.
        step = 1 if is_even(spot, order) else -1
        row = []
        lift = 0
        for letter in south[:-1]:
            if letter == "n":
                lift += step
            row.append(lift)
            step = -step
        told.append(tuple(row))
    return tuple(told)


def _lifts_by(one, other, told):
    """Rows of what is told of the LIFTS of two FLOORS at each SPOT."""
    found = []
    for row, row_other in zip(_lifts_of(one), _lifts_of(other)):
        found.append(tuple([told(lift, lift_other) for lift, lift_other in zip(row, row_other)]))
    return tuple(found)


def _lifts_by_spots(floor):
    """A dict from the INNER SPOTS to their LIFTS."""
    found = {}
    for spots, row in zip(spots_by_rows(len(floor) // 2), _lifts_of(floor)):
        for spot, lift in zip(spots, row):
            found[spot] = lift
    return found


def _floor_by(lifts):
    """As floor_by, of good LIFTS."""
    order = (len(lifts) + 1) // 2
    letters = [["."] * (2 * half_of(order, row)) for row in range(2 * order)]
    for row, line in enumerate(lifts):
        west = 0
        for number, lift in enumerate(line + (0,)):
            # A stone stands just where the LIFTS beside it are unlike.
            if lift != west:
                cell = number - len(line) // 2 - 1
                letters[row][cell + half_of(order, row)] = "n"
                letters[row + 1][cell + half_of(order, row + 1)] = "s"
            west = lift
    return tuple(["".join(row).replace("..", "ew") for row in letters])


def _need_lifts(thing):
    """None, or BadLifts(place) of anything that are no LIFTS."""
    if type(thing) is not tuple or len(thing) % 2 == 0 or len(thing) > 2 * MOST_ORDER - 1:
        raise BadLifts(None)
    order = (len(thing) + 1) // 2
    for v, row in zip(range(1 - order, order), thing):
        if not is_tuple_of(row, 2 * (order - abs(v)) - 1):
            raise BadLifts(None)
        for lift in row:
            if type(lift) is not int:
                raise BadLifts(None)
    odd = _first_at_odds(thing)
    if odd is not None:
        number, place = odd
        v = number + 1 - order
        raise BadLifts((abs(v) + 1 - order + place, v))


def _first_at_odds(lifts):
    """(Row, place in it) of the first LIFT at odds with that to the west or the south, or with a 0 that isn't INNER."""
    middle = len(lifts) // 2
    for number, row in enumerate(lifts):
        last = len(row) - 1
        west = 0
        for place, lift in enumerate(row):
            # The first SPOT of a row is EVEN, and so is the last one.
            beside = lift - west if place % 2 == 0 else west - lift
            if number > middle:
                below = lifts[number - 1][place + 1] - lift
            elif 0 < place < last:
                below = lift - lifts[number - 1][place - 1]
            else:
                # The row to the south is shorter, so that there stands a 0.
                below = lift
            if beside not in (0, 1) or below not in (0, 1) or place == last and lift not in (0, 1):
                return (number, place)
            west = lift
    return None


def _fits(lifts, spot, lift, order):
    """True where a SPOT may have this LIFT beside those of its NEIGHBOURS."""
    u, v = spot
    even = is_even(spot, order)
    for near in around((u, v)):
        more = even if near[1] == v else abs(v) < abs(near[1])
        apart = lift - lifts.get(near, 0)
        if (apart if more else -apart) not in (0, 1):
            return False
    return True


def _is_inner(thing, order):
    """True of an INNER SPOT (U, V), of anything."""
    if not is_tuple_of(thing, 2) or not is_whole(thing[0]) or not is_whole(thing[1]):
        return False
    return abs(thing[0]) + abs(thing[1]) < order


def _do_stand(south, north):
    """True where both stones of a FLIP stand, False where they lie, None where there can be none, by the four cells."""
    if south == "nn":
        return True
    if south == "ew" == north:
        return False
    return None


def _with_two(text, cell, letters):
    """A text with other letters for two."""
    return text[:cell] + letters + text[cell + 2:]
