"""FLOORS, LIFTS and FLIPS told once more, cell by cell, to hold the program against."""

import functools

BACK = {"e": "w", "w": "e", "n": "s", "s": "n"}
STEPS = {"e": (1, 0), "w": (-1, 0), "n": (0, 1), "s": (0, -1)}


def length_of(order, row):
    return 2 * (row + 1) if row < order else 2 * (2 * order - row)


def cell_places(order):
    """From each (ROW, CELL) to its (X, Y): twice as far from the middle to the east and north as its own middle is."""
    return {(row, cell): (2 * cell + 1 - length_of(order, row), 2 * row + 1 - 2 * order)
            for row in range(2 * order) for cell in range(length_of(order, row))}


def wrong_cell(texts):
    """The first cell that stands wrong, None of a FLOOR; of 2, 4, .. or 16 texts."""
    order = len(texts) // 2
    places = cell_places(order)
    cells = {place: cell for cell, place in places.items()}
    for row, text in enumerate(texts):
        for cell in range(max(len(text), length_of(order, row)) + 1):
            if (row, cell) not in places:
                if cell < len(text):
                    return (row, cell)
                continue
            if cell >= len(text) or text[cell] not in BACK:
                return (row, cell)
            x, y = places[row, cell]
            step = STEPS[text[cell]]
            other = cells.get((x + 2 * step[0], y + 2 * step[1]))
            if other is None or other[1] >= len(texts[other[0]]):
                return (row, cell)
            if texts[other[0]][other[1]] != BACK[text[cell]]:
                return (row, cell)
    return None


def texts_of(order, covered):
    """The texts of a dict from (X, Y) to letters."""
    places = cell_places(order)
    return tuple("".join(covered[places[row, cell]] for cell in range(length_of(order, row)))
                 for row in range(2 * order))


@functools.lru_cache(maxsize=None)
def floors_by_hand(order):
    """All FLOORS, rising, by covering the first cell that is left in each way."""
    places = sorted(cell_places(order).values())
    every = set(places)

    def going_on(covered):
        free = next((place for place in places if place not in covered), None)
        if free is None:
            return [texts_of(order, covered)]
        found = []
        for letter in "en":
            x, y = free
            step = STEPS[letter]
            other = (x + 2 * step[0], y + 2 * step[1])
            if other in every and other not in covered:
                found += going_on({**covered, free: letter, other: BACK[letter]})
        return found
    return tuple(sorted(going_on({})))


def letters_at(floor):
    """From each (X, Y) to its letter."""
    return {place: floor[row][cell] for (row, cell), place in cell_places(len(floor) // 2).items()}


def inner_spots(order):
    """The INNER SPOTS, row by row from the south."""
    return [(u, v) for v in range(-order, order + 1) for u in range(-order, order + 1) if abs(u) + abs(v) < order]


def is_even_spot(order, u, v):
    return (abs(u) + abs(v)) % 2 == (order + 1) % 2


def lift_by_hand(floor, u, v):
    """The LIFT of a SPOT, by the words of point 73."""
    order = len(floor) // 2
    lift = 0
    for (x, y), letter in letters_at(floor).items():
        # The stone's southern cell lies half a step to the south of the row of SPOTS, and the SPOT right to the east of
        # it half a step to the east.
        if letter == "n" and y + 1 == 2 * v and x < 2 * u:
            lift += 1 if is_even_spot(order, (x + 1) // 2, v) else -1
    return lift


def in_rows(order, told):
    """Rows from the south of what is told of each INNER SPOT."""
    return tuple(tuple(told(u, v) for u in range(-order, order + 1) if abs(u) + abs(v) < order)
                 for v in range(1 - order, order))


def four_cells(u, v):
    """(X, Y) of the cells at a SPOT: those to the south, those to the north, from west to east."""
    return [(2 * u - 1, 2 * v - 1), (2 * u + 1, 2 * v - 1), (2 * u - 1, 2 * v + 1), (2 * u + 1, 2 * v + 1)]


def flips_by_hand(floor):
    """A dict from SPOTS, rising, to ("rise" or "fall", the FLOOR behind)."""
    order = len(floor) // 2
    letters = letters_at(floor)
    found = {}
    for u, v in sorted(inner_spots(order)):
        four = "".join(letters[place] for place in four_cells(u, v))
        if four in ("ewew", "nnss"):
            other = {"ewew": "nnss", "nnss": "ewew"}[four]
            word = "rise" if (other == "nnss") == is_even_spot(order, u, v) else "fall"
            found[u, v] = (word, texts_of(order, {**letters, **dict(zip(four_cells(u, v), other))}))
    return found


def ways_by_flips(floor):
    """From each FLOOR of the ORDER to how few FLIPS lead to it."""
    apart = {floor: 0}
    layer = [floor]
    while layer:
        behind = []
        for one in layer:
            for _, other in flips_by_hand(one).values():
                if other not in apart:
                    apart[other] = apart[one] + 1
                    behind.append(other)
        layer = behind
    return apart


def first_flips_by_hand(one, other):
    """Out of all rows of as few FLIPS, going on with the first one each time."""
    apart = ways_by_flips(other)
    row = []
    while one != other:
        spot, one = next((spot, behind) for spot,
                         (_, behind) in flips_by_hand(one).items() if apart[behind] < apart[one])
        row.append(spot)
    return tuple(row)


def odd_lift(lifts):
    """None, or the first SPOT of rows of numbers that is at odds, by the words of the interface."""
    order = (len(lifts) + 1) // 2
    numbers = dict(zip(inner_spots(order), [number for row in lifts for number in row]))

    def is_right(one, other):
        apart = numbers.get(one, 0) - numbers.get(other, 0)
        if one[1] == other[1]:
            return (apart if is_even_spot(order, *one) else -apart) in (0, 1)
        return (apart if abs(one[1]) < abs(other[1]) else -apart) in (0, 1)

    for u, v in inner_spots(order):
        for near in ((u - 1, v), (u, v - 1), (u + 1, v), (u, v + 1)):
            if near in ((u - 1, v), (u, v - 1)) or near not in numbers:
                if not is_right((u, v), near):
                    return (u, v)
    return None
