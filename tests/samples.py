"""What several tests draw on: small marks and weighings, all of them, and things of wrong kinds."""

import collections
import decimal
import fractions
import itertools


class EqualToAll:
    """Claims to equal whatever it is compared with, and can't be hashed or shown."""

    def __eq__(self, other):
        return True

    __hash__ = None

    def __repr__(self):
        raise RuntimeError("not to be shown")


NO_TEXTS = [
    None, True, False, 0, 1, -1, 10 ** 5000, 1.5, float("nan"), 1j, b"e", bytearray(b"even"), [], ["e"], ["even"],
    (), ("e",), ("left",), {}, {"e": 1}, {"even"}, frozenset(), range(2), str, object(), len, EqualToAll(),
    collections.UserString("e"), collections.UserString("-"), memoryview(b"e"),
]

NO_LISTS = [
    None, True, False, 0, 1, 1.5, "", "0", "01", b"", b"\x00", (), (0,), (0, 1), {}, {0: 0}, set(), {0},
    frozenset([0]), range(1), iter([]), iter([0]), list, object(), EqualToAll(),
    collections.UserList([0]), collections.deque([0]), {}.keys(), memoryview(b""),
]

NO_WHOLE_NUMBERS = [
    None, True, False, 0.0, 1.0, float("nan"), float("inf"), 1j, "", "0", "1", b"\x00", [], [0], (), (0,), {}, {0},
    int, object(), EqualToAll(), fractions.Fraction(1), decimal.Decimal(1),
]

NO_TRUTHS = [None, 0, 1, -1, 1.0, "", "True", "heavy", b"", [], [True], (True,), {}, bool, object(), EqualToAll()]


def all_marks(most):
    """Every text of up to so many signs that is marks, by its own plain reading of the rule."""
    found = []
    for count in range(most + 1):
        for signs in itertools.product("ehlg", repeat=count):
            if not ("e" in signs and ("h" in signs or "l" in signs)):
                found.append("".join(signs))
    return found


def all_weighings(coins):
    """Every weighing of so many coins and the one beside them."""
    found = []
    for places in itertools.product("lro", repeat=coins + 1):
        left = [coin for coin, place in enumerate(places) if place == "l"]
        right = [coin for coin, place in enumerate(places) if place == "r"]
        if len(left) == len(right):
            found.append((left, right))
    return found


def case_list(marks):
    """The cases of marks as weights that differ from a good coin's: (coin, 1), (coin, -1), or (-1, 0) for none."""
    found = []
    for coin, sign in enumerate(marks):
        if sign in "eh":
            found.append((coin, 1))
        if sign in "el":
            found.append((coin, -1))
    if not set(marks) & {"h", "l"}:
        found.append((-1, 0))
    return found


def on_the_scale(case, left, right):
    """The outcome, by putting weights on a scale."""
    odd, more = case
    tilt = sum(10 + (more if coin == odd else 0) for coin in left)
    tilt -= sum(10 + (more if coin == odd else 0) for coin in right)
    if tilt > 0:
        return "left"
    if tilt < 0:
        return "right"
    return "even"


def fewest_by_count(many):
    """How many weighings tell so many cases apart, by the words of the document."""
    return next(times for times in range(1000) if 3 ** times >= many)


def is_first_weighing(marks, left, right, many):
    """Whether a weighing and a number are such as are told of marks, by weights on a scale."""
    found = case_list(marks)
    if len(found) == 1 or many != fewest_by_count(len(found)) or not is_weighing(len(marks), left, right):
        return False
    came = [on_the_scale(case, left, right) for case in found]
    return all(came.count(outcome) <= 3 ** (many - 1) for outcome in set(came))


def is_weighing(highest, left, right):
    """Whether two lists of whole numbers are a weighing with no count above the highest."""
    rising = all(side == sorted(set(side)) for side in (left, right))
    return rising and len(left) == len(right) and len(set(left + right)) == 2 * len(left) and all(
        0 <= coin <= highest for coin in left + right
    )


def edge_marks(most):
    """Marks with 3 multiplied by itself up to so many times as cases, one less and one more, with and without g."""
    found = []
    for times in range(most + 1):
        for many in (3 ** times - 1, 3 ** times, 3 ** times + 1):
            for heavy in sorted({0, 1, 2, many // 3, many // 2, many - 2, many - 1, many} & set(range(many + 1))):
                found.extend(["h" * heavy + "l" * (many - heavy), mixed("h" * heavy, "l" * (many - heavy))])
            if many % 2:
                found.append("e" * (many // 2))
        found.extend(["e" * (3 ** times // 2 + 1), "e" * (3 ** times // 2 - 1)])
    found.extend([mixed(marks, "g" * (len(marks) // 2 + 1)) for marks in found])
    return sorted(set(found + [marks[::-1] for marks in found]))


def mixed(first, second):
    """The signs of two texts by turns, and the rest of the longer one."""
    pairs = itertools.zip_longest(first, second, fillvalue="")
    return "".join(one + other for one, other in pairs)
