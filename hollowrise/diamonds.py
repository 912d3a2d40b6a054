"""DIAMONDS of cells, and the stones that cover them: what is a FLOOR, and how rows of one follow each other.

A cell's place is how far to the east it lies of where the longest rows begin: it is the same for all cells above one
another. Of the cells that are covered together with those to the north, a row's standing ones, each is a bit.
"""

from hollowrise.errors import BadFloor, BadOrder
from hollowrise.kinds import is_whole

MOST_ORDER = 8
ACROSS = {"e": "w", "w": "e", "n": "s", "s": "n"}


def need_order(thing, most):
    """None, or BadOrder of anything that is no whole number from 1 to the most."""
    if not is_whole(thing) or not 1 <= thing <= most:
        raise BadOrder("there are no floors of this order here")


def need_floor(thing):
    """None, or BadFloor(place) of anything that is no FLOOR."""
    if type(thing) is not tuple or len(thing) % 2 == 1 or not 2 <= len(thing) <= 2 * MOST_ORDER:
        raise BadFloor(None)
    for text in thing:
        if type(text) is not str:
            raise BadFloor(None)
    if not _is_covered(thing):
        raise BadFloor(_first_wrong(thing))


def half_of(order, row):
    """How many cells a row of a DIAMOND has to either side of its middle."""
    return min(row + 1, 2 * order - row)


def spots_by_rows(order):
    """The INNER SPOTS (U, V), row by row from the south."""
    return [[(u, v) for u in range(abs(v) + 1 - order, order - abs(v))] for v in range(1 - order, order)]


def cells_by_rows(floor):
    """(The first SPOT, the southern cells, the northern cells) of each row of INNER SPOTS, from the south.

    Each SPOT of the row lies between two cells to the south, and the two of the same places to the north.
    """
    order = len(floor) // 2
    told = []
    for row, v in enumerate(range(1 - order, order)):
        # Of two rows that are unlike long the longer one has a cell more at each end.
        south = floor[row] if v <= 0 else floor[row][1:-1]
        north = floor[row + 1] if v >= 0 else floor[row + 1][1:-1]
        told.append(((abs(v) + 1 - order, v), south, north))
    return told


def is_even(spot, order):
    """True of an EVEN SPOT (U, V)."""
    return (spot[0] + spot[1] + order) % 2 == 1


def words_of(order, row, below):
    """All (text, its standing ones) of a row, rising, by those of the row below; some may lead to no FLOOR."""
    half = half_of(order, row)
    told = [("", 0)]
    last = []
    for place in reversed(range(order - half, order + half)):
        if below >> place & 1:
            found = [("s" + text, up) for text, up in told]
            last = []
        else:
            found = [("ew" + text, up) for text, up in last] + [("n" + text, up | 1 << place) for text, up in told]
            last = told
        told = found
    return told


def ways_on(order):
    """For each row a dict from its standing ones to how many ways the rows to the north can be covered in."""
    reached = {0: 1}
    told = [reached]
    texts = []
    for row in range(order):
        texts.append({below: words_of(order, row, below) for below in reached})
        reached = _reached_behind(reached, texts[row])
        told.append(reached)
    # Upside down the northern half is the southern one.
    ways = told[::-1]
    for row in reversed(range(1, order)):
        ahead = ways[0]
        ways = [{below: sum([ahead[up] for _, up in texts[row][below]]) for below in texts[row]}] + ways
    return ways


def _reached_behind(reached, texts):
    """A dict from a row's standing ones to how many ways it can be come to in, by that of the row below."""
    behind = {}
    for below, many in reached.items():
        for _, up in texts[below]:
            behind[up] = behind.get(up, 0) + many
    return behind


def _is_covered(floor):
    """True of texts that are a FLOOR; told of all cells at once, as most things that are asked for are FLOORS."""
    order = len(floor) // 2
    lines = []
    for row, text in enumerate(floor):
        half = half_of(order, row)
        if len(text) != 2 * half or "." in text:
            return False
        beside = "." * (order - half)
        lines.append(beside + text + beside)
    # One sign between two rows, so that none leads from the end of one to the next.
    cells = ".".join(lines)
    # What is left but "s" has to stand once more in the row to the north, as what is left but "n": any other letter
    # would go on so, and come to an end nowhere.
    left = cells.replace("ew", "..")
    gap = "." * (2 * order + 1)
    return gap + left.replace("s", ".") == left.replace("n", ".").replace("s", "n") + gap


def _first_wrong(floor):
    """(ROW, CELL) of the first cell of texts that stands wrong, None without."""
    order = len(floor) // 2
    for row, text in enumerate(floor):
        for cell in range(max(len(text), 2 * half_of(order, row))):
            if not _stands_right(floor, row, cell):
                return (row, cell)
    return None


def _stands_right(floor, row, cell):
    """True of a cell that is there and is led back to."""
    if not _is_there(floor, row, cell) or floor[row][cell] not in ACROSS:
        return False
    letter = floor[row][cell]
    row_led, cell_led = _led_to(len(floor) // 2, row, cell, letter)
    return _is_there(floor, row_led, cell_led) and floor[row_led][cell_led] == ACROSS[letter]


def _is_there(floor, row, cell):
    """True of a cell that the DIAMOND has, and the text of its row."""
    if not 0 <= row < len(floor):
        return False
    return 0 <= cell < min(2 * half_of(len(floor) // 2, row), len(floor[row]))


def _led_to(order, row, cell, letter):
    """(ROW, CELL) to which a letter leads."""
    if letter == "e":
        return (row, cell + 1)
    if letter == "w":
        return (row, cell - 1)
    other = row + 1 if letter == "n" else row - 1
    return (other, cell + half_of(order, other) - half_of(order, row))
