"""Marks: the cases that they leave, and the fewest weighings that always tell which one is so."""

from oddcoin.checks import check_marks


def cases(marks):
    check_marks(marks)
    one_way = marks.count("h") + marks.count("l")
    if one_way > 0:
        return one_way
    # Without h and l it may also be that no coin is odd.
    return 2 * marks.count("e") + 1


def fewest(marks):
    many = cases(marks)
    weighings = 0
    told_apart = 1
    while told_apart < many:
        told_apart = told_apart * 3
        weighings = weighings + 1
    return weighings
