"""Marks: the cases that they leave, and the fewest weighings that always tell which one is so."""

from oddcoin.checks import check_marks


def cases(marks):
    check_marks(marks)
    one_way = marks.count("h") + marks.count("l")
    if one_way > 0:
        return one_way
    # Without h and l it may also be that no coin is odd.
    return 2 * marks.count("e") + 1


def most_cases(weighings):
    # Each weighing has three outcomes, so each one more tells three times as many cases apart.
    most = 1
    for step in range(weighings):
        most = most * 3
    return most


def fewest(marks):
    many = cases(marks)
    weighings = 0
    while most_cases(weighings) < many:
        weighings = weighings + 1
    return weighings
