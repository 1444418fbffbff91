"""What is told of marks: the one case, or the first of the fewest weighings that always do."""

from oddcoin.answers import Heavy, Light, Nothing, Open
from oddcoin.marks import fewest, most_cases


def coins_with(marks, wanted):
    return [coin for coin, sign in enumerate(marks) if sign == wanted]


def paired_first(marks):
    # Two coins of one sign, one on either side, leave as many cases behind left as behind right. A coin that finds
    # no other of its sign comes last, so that never more than one of those is weighed, against the coin beside.
    pairs = []
    alone = []
    for sign in ("e", "h", "l"):
        coins = coins_with(marks, sign)
        even = len(coins) - len(coins) % 2
        pairs.extend(coins[:even])
        alone.extend(coins[even:])
    return pairs + alone


def kept_off(marks, most):
    # Behind even each e is two cases, and one more is that no coin is odd.
    return (most - 1) // 2 if "e" in marks else most


def first_weighing(marks, many):
    # As many coins as may be are kept off; those that are left are never too many for the other two outcomes.
    coins = paired_first(marks)
    on = len(coins) - kept_off(marks, most_cases(many - 1))
    left = coins[0:on:2]
    right = coins[1:on:2]
    if len(left) > len(right):
        # The coin beside is good for sure, and there even if no other is.
        right.append(len(marks))
    return Open(sorted(left), sorted(right), many)


def told(marks):
    many = fewest(marks)
    if many > 0:
        return first_weighing(marks, many)
    if "h" in marks:
        return Heavy(marks.index("h"))
    if "l" in marks:
        return Light(marks.index("l"))
    return Nothing()
