"""All refusals of hollowrise, by what they tell.

The texts don't show the fields: these may be numbers too long to be written.
"""


class HollowError(ValueError):
    """What is handed in is refused."""


class BadField(HollowError):
    """What is no FIELD; the place tells what is wrong."""

    def __init__(self, place=None):
        super().__init__("this is no field")
        self.place = place


class BadFraction(HollowError):
    """What can be no such FRACTION here."""


class BadRule(HollowError):
    """What is no RULE."""


class BadSpot(HollowError):
    """What is no SPOT of the FIELD."""


class BadTarget(HollowError):
    """What is no TARGET of the FIELD."""


class BadHeights(HollowError):
    """What are no HEIGHTS, or those of another BOARD or RIM."""


class BadRow(HollowError):
    """What is no ROW; the number is that of the first wrong thing."""

    def __init__(self, number=None):
        super().__init__("this is no row of deeds")
        self.number = number


class BadPairing(HollowError):
    """What is no PAIRING; the number is that of the first wrong thing."""

    def __init__(self, number=None):
        super().__init__("this is no pairing")
        self.number = number


class BadPaper(HollowError):
    """What are not the GROUPS; the place tells the first wrong thing."""

    def __init__(self, place=None):
        super().__init__("these are not the groups")
        self.place = place


class BadCoin(HollowError):
    """What are no COINS; the number is that of the first wrong thing."""

    def __init__(self, number=None):
        super().__init__("these are no coins")
        self.number = number


class TooGreat(HollowError):
    """More than the most that is told."""

    def __init__(self, most):
        super().__init__("this is too great")
        self.most = most


class TooFew(HollowError):
    """Fewer COINS than are asked for."""

    def __init__(self, number):
        super().__init__("there are too few coins")
        self.number = number


class BadPowers(HollowError):
    """What are no POWERS; the number is that of the first wrong pair."""

    def __init__(self, number=None):
        super().__init__("these are no powers")
        self.number = number


class BadSum(HollowError):
    """What is no SUM; the number is that of the first wrong row."""

    def __init__(self, number=None):
        super().__init__("this is no sum")
        self.number = number


class BadWeighing(HollowError):
    """What is no WEIGHING; the place is that of the first wrong part."""

    def __init__(self, place=None):
        super().__init__("this is no weighing")
        self.place = place


class BadOrder(HollowError):
    """What is no such number of an ORDER, a side or a base."""


class BadFloor(HollowError):
    """What is no FLOOR; the place is that of the first wrong cell."""

    def __init__(self, place=None):
        super().__init__("this is no floor")
        self.place = place


class BadLifts(HollowError):
    """What are no LIFTS; the place is that of the first wrong SPOT."""

    def __init__(self, place=None):
        super().__init__("these are no lifts")
        self.place = place


class NoFlip(HollowError):
    """No FLIP can be at the SPOT."""

    def __init__(self, spot):
        super().__init__("no flip can be at this spot")
        self.spot = spot


class BadTable(HollowError):
    """What is no TABLE; the place is the first wrong row or column."""

    def __init__(self, place=None):
        super().__init__("this is no table")
        self.place = place


class BadRows(HollowError):
    """What are no such rows of FRACTIONS, or no such number of them."""


class BadForm(HollowError):
    """What is no FORM."""


class NotMet(HollowError):
    """Two TABLES that don't MEET."""


class BadText(HollowError):
    """What isn't written so; the line is the first that can't stand there."""

    def __init__(self, line):
        super().__init__("this is not written as it has to be")
        self.line = line


class BadName(HollowError):
    """What is no NAME."""


class BadJob(HollowError):
    """What is no JOB; the number is that of the first wrong thing."""

    def __init__(self, number=None):
        super().__init__("this is no job")
        self.number = number


class DeedError(RuntimeError):
    """A DEED can't be done at the SPOT."""


class NoHollow(DeedError):
    """The SPOT is no HOLLOW."""

    def __init__(self, spot):
        super().__init__("this spot is no hollow")
        self.spot = spot


class NoPeak(DeedError):
    """The SPOT is no PEAK."""

    def __init__(self, spot):
        super().__init__("this spot is no peak")
        self.spot = spot


class Nought(DeedError):
    """The SPOT's WORTH would be 0."""

    def __init__(self, spot):
        super().__init__("the worth of this spot would be nought")
        self.spot = spot


class BookError(LookupError):
    """A BOOK hasn't what is asked for, or no room for it."""


class NoName(BookError):
    """The NAME isn't there."""

    def __init__(self, name):
        super().__init__("this name is not there")
        self.name = name


class Taken(BookError):
    """The NAME is there already."""

    def __init__(self, name):
        super().__init__("this name is taken")
        self.name = name


class Full(BookError):
    """There are as many NAMES as a BOOK keeps."""

    def __init__(self, most):
        super().__init__("the book is full")
        self.most = most


class Gone(BookError):
    """There is nothing left to undo or to redo."""
