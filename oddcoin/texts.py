"""Weighings as texts, written and read."""

from oddcoin.checks import check_weighing
from oddcoin.errors import BadText, BadWeighing

HIGHEST = 999999999
MOST_FIGURES = 9
FIGURES = "0123456789"
BETWEEN_SIDES = " | "
NONE = "-"


def side_written(side):
    return " ".join([str(coin) for coin in side])


def written(left, right):
    check_weighing(HIGHEST, left, right)
    if len(left) == 0:
        return NONE
    return side_written(left) + BETWEEN_SIDES + side_written(right)


def count_read(figures):
    # The length comes before all else: Python itself refuses to read figures without end.
    if len(figures) == 0 or len(figures) > MOST_FIGURES:
        raise BadText("a count has one figure or more, and is below 1000000000")
    if not all([sign in FIGURES for sign in figures]):
        raise BadText("counts are written in figures, with one blank between")
    if figures[0] == "0" and figures != "0":
        raise BadText("a count has no needless nought")
    return int(figures)


def side_read(text):
    return [count_read(figures) for figures in text.split(" ")]


def read(text):
    if not isinstance(text, str):
        raise BadText("what is read is a text")
    if text == NONE:
        return ([], [])
    sides = text.split(BETWEEN_SIDES)
    if len(sides) != 2:
        raise BadText("a weighing is two sides, or - for none on both")
    left = side_read(sides[0])
    right = side_read(sides[1])
    try:
        check_weighing(HIGHEST, left, right)
    except BadWeighing:
        raise BadText("the counts rise, as many on either side, none on both") from None
    return (left, right)
