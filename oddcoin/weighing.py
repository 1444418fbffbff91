"""Weighings: their outcome, and what is left of the cases behind it."""

from oddcoin.checks import OUTCOMES, check_marks, check_odd, check_outcome, check_weighing
from oddcoin.errors import Never

# A heavy coin makes its own side go down, a light one the other; a coin on neither side leaves it even.
OTHER = {"left": "right", "right": "left", "even": "even"}


def placed(left, right):
    places = {}
    for coin in left:
        places[coin] = "left"
    for coin in right:
        places[coin] = "right"
    return places


def outcome_by(place, heavy):
    return place if heavy else OTHER[place]


def may_be_heavy(sign):
    return sign in ("e", "h")


def may_be_light(sign):
    return sign in ("e", "l")


def may_all_be_good(marks):
    return "h" not in marks and "l" not in marks


def sign_behind(sign, place, outcome):
    heavy = may_be_heavy(sign) and outcome_by(place, True) == outcome
    light = may_be_light(sign) and outcome_by(place, False) == outcome
    if heavy and light:
        return "e"
    if heavy:
        return "h"
    if light:
        return "l"
    return "g"


def judged(marks, left, right):
    check_marks(marks)
    check_weighing(len(marks), left, right)
    places = placed(left, right)
    counts = {"left": 0, "right": 0, "even": 0}
    for coin, sign in enumerate(marks):
        place = places.get(coin, "even")
        if may_be_heavy(sign):
            outcome = outcome_by(place, True)
            counts[outcome] = counts[outcome] + 1
        if may_be_light(sign):
            outcome = outcome_by(place, False)
            counts[outcome] = counts[outcome] + 1
    if may_all_be_good(marks):
        counts["even"] = counts["even"] + 1
    return (counts["left"], counts["right"], counts["even"])


def behind(marks, left, right, outcome):
    counts = judged(marks, left, right)
    check_outcome(outcome)
    # Asked of the counts, not of the new signs: g alone would wrongly say that no coin is odd.
    if counts[OUTCOMES.index(outcome)] == 0:
        raise Never("no case is left behind this outcome")
    places = placed(left, right)
    return "".join([sign_behind(sign, places.get(coin, "even"), outcome) for coin, sign in enumerate(marks)])


def weighed(coins, odd, heavy, left, right):
    check_odd(coins, odd, heavy)
    check_weighing(coins, left, right)
    return outcome_by(placed(left, right).get(odd, "even"), heavy)
