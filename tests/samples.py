"""What several tests draw on: small marks and weighings, all of them, and things of wrong kinds."""

import itertools


class EqualToAll:
    """Claims to equal whatever it is compared with, and can't be hashed or shown."""

    def __eq__(self, other):
        return True

    __hash__ = None

    def __repr__(self):
        raise RuntimeError("not to be shown")


NO_TEXTS = [
    None, True, False, 0, 1, -1, 10 ** 5000, 1.5, float("nan"), 1j, b"e", bytearray(b"even"), [], ["e"], ["even"],
    (), ("e",), ("left",), {}, {"e": 1}, {"even"}, frozenset(), range(2), str, object(), len, EqualToAll(),
]

NO_LISTS = [
    None, True, False, 0, 1, 1.5, "", "0", "01", b"", b"\x00", (), (0,), (0, 1), {}, {0: 0}, set(), {0},
    frozenset([0]), range(1), iter([]), iter([0]), list, object(), EqualToAll(),
]

NO_WHOLE_NUMBERS = [
    None, True, False, 0.0, 1.0, float("nan"), float("inf"), 1j, "", "0", "1", b"\x00", [], [0], (), (0,), {}, {0},
    int, object(), EqualToAll(),
]

NO_TRUTHS = [None, 0, 1, -1, 1.0, "", "True", "heavy", b"", [], [True], (True,), {}, bool, object(), EqualToAll()]


def all_marks(most):
    """Every text of up to so many signs that is marks, by its own plain reading of the rule."""
    found = []
    for count in range(most + 1):
        for signs in itertools.product("ehlg", repeat=count):
            if not ("e" in signs and ("h" in signs or "l" in signs)):
                found.append("".join(signs))
    return found


def all_weighings(coins):
    """Every weighing of so many coins and the one beside them."""
    found = []
    for places in itertools.product("lro", repeat=coins + 1):
        left = [coin for coin, place in enumerate(places) if place == "l"]
        right = [coin for coin, place in enumerate(places) if place == "r"]
        if len(left) == len(right):
            found.append((left, right))
    return found


def case_list(marks):
    """The cases of marks as weights that differ from a good coin's: (coin, 1), (coin, -1), or (-1, 0) for none."""
    found = []
    for coin, sign in enumerate(marks):
        if sign in "eh":
            found.append((coin, 1))
        if sign in "el":
            found.append((coin, -1))
    if not set(marks) & {"h", "l"}:
        found.append((-1, 0))
    return found


def on_the_scale(case, left, right):
    """The outcome, by putting weights on a scale."""
    odd, more = case
    tilt = sum(10 + (more if coin == odd else 0) for coin in left)
    tilt -= sum(10 + (more if coin == odd else 0) for coin in right)
    if tilt > 0:
        return "left"
    if tilt < 0:
        return "right"
    return "even"
