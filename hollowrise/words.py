"""Whole numbers and FRACTIONS as words."""

from hollowrise.figures import MOST_FIGURES, need_short
from hollowrise.fractions import is_fraction


def fraction_word(one):
    """A good FRACTION as it is written; TooGreat of a number of more than a thousand figures."""
    need_short(one)
    above, below = one
    if below == 1:
        return str(above)
    return f"{above}/{below}"


def number_in_word(word):
    """The whole number that is written so, None where none is."""
    figures = word[1:] if word.startswith("-") else word
    # Of other letters some are taken for figures, too.
    if len(figures) > MOST_FIGURES or not figures.isascii() or not figures.isdigit():
        return None
    if figures.startswith("0") and word != "0":
        return None
    return int(word)


def fraction_in_word(word):
    """The FRACTION that is written so, None where none is."""
    first, sign, second = word.partition("/")
    above = number_in_word(first)
    if sign == "":
        return None if above is None else (above, 1)
    below = number_in_word(second)
    # A BELOW of 1 isn't written.
    if below == 1 or not is_fraction((above, below)):
        return None
    return (above, below)
