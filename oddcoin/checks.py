"""What is handed in is looked at here, and refused, before anything is told of it.

The errors' words never show what was handed in: it may be of any kind, also one that can't be shown.
"""

from oddcoin.errors import BadCoin, BadMarks, BadOutcome, BadWeighing

OUTCOMES = ("left", "right", "even")


def is_whole(value):
    # Python counts True and False among the whole numbers; here they are none.
    return isinstance(value, int) and not isinstance(value, bool)


def check_marks(marks):
    if not isinstance(marks, str):
        raise BadMarks("marks are a text")
    either = marks.count("e")
    one_way = marks.count("h") + marks.count("l")
    if either + one_way + marks.count("g") != len(marks):
        raise BadMarks("each sign of marks is e, h, l or g")
    if either > 0 and one_way > 0:
        raise BadMarks("no marks have e beside h or l")


def check_side(highest, side):
    if not isinstance(side, list):
        raise BadWeighing("each side is a list")
    last = -1
    for coin in side:
        if not is_whole(coin):
            raise BadWeighing("each side holds whole numbers alone")
        if coin <= last:
            raise BadWeighing("the counts on a side rise, from 0 on")
        if coin > highest:
            raise BadWeighing("there is no coin of that count")
        last = coin


def check_weighing(highest, left, right):
    check_side(highest, left)
    check_side(highest, right)
    if len(left) != len(right):
        raise BadWeighing("there are as many coins on either side")
    if len(set(left) & set(right)) > 0:
        raise BadWeighing("no coin is on both sides")


def check_outcome(outcome):
    # The kind comes first: some other thing might claim to equal every text.
    if not isinstance(outcome, str) or outcome not in OUTCOMES:
        raise BadOutcome("an outcome is left, right or even")


def check_odd(coins, odd, heavy):
    if not is_whole(coins) or coins < 0:
        raise BadCoin("how many coins there are is a whole number from 0 on")
    # The coin beside, counted behind them all, is good for sure and so never the odd one.
    if not is_whole(odd) or odd < -1 or odd >= coins:
        raise BadCoin("the odd coin is one of the coins, or -1 for none")
    if not isinstance(heavy, bool):
        raise BadCoin("whether the odd coin is heavy is True or False")
