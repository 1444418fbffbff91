"""What is told of marks, and whether it is so."""

from oddcoin.checks import is_whole
from oddcoin.errors import BadWeighing
from oddcoin.marks import cases, fewest, most_cases
from oddcoin.weighing import judged, may_all_be_good


def is_the_one_case(marks, coin, sign):
    if cases(marks) != 1 or not is_whole(coin):
        return False
    # Both bounds are asked: Python would take a negative count as one from the end.
    return 0 <= coin and coin < len(marks) and marks[coin] == sign


class Answer:
    pass


class Heavy(Answer):
    def __init__(self, coin):
        self.coin = coin

    def shows(self, marks):
        return is_the_one_case(marks, self.coin, "h")


class Light(Answer):
    def __init__(self, coin):
        self.coin = coin

    def shows(self, marks):
        return is_the_one_case(marks, self.coin, "l")


class Nothing(Answer):
    def shows(self, marks):
        return cases(marks) == 1 and may_all_be_good(marks)


class Open(Answer):
    def __init__(self, left, right, many):
        self.left = list(left)
        self.right = list(right)
        self.many = many

    def shows(self, marks):
        # The number is asked first: it may be of any size, and the bound below is built up from it step by step.
        if cases(marks) == 1 or not is_whole(self.many) or self.many != fewest(marks):
            return False
        try:
            counts = judged(marks, self.left, self.right)
        except BadWeighing:
            return False
        # No more is to be asked: with a good coin beside, that many cases can always be told apart.
        return max(counts) <= most_cases(self.many - 1)
