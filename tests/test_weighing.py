import inspect
import unittest

from oddcoin.errors import BadCoin, BadMarks, BadOutcome, BadWeighing, Never
from oddcoin.weighing import behind, judged, weighed
from samples import (
    NO_LISTS, NO_TEXTS, NO_TRUTHS, NO_WHOLE_NUMBERS, EqualToAll, all_marks, all_weighings, case_list, on_the_scale,
)

OUTCOMES = ("left", "right", "even")

BAD_OUTCOMES = ["", "Left", "LEFT", "left ", " even", "even\n", "l", "r", "lefteven", "down", "-", "0"]

# Of three coins and the one beside them.
BAD_PAIRS = [
    ([0], []), ([], [0]), ([0, 1], [2]), ([0], [1, 2]), ([0, 1, 2], [3]),
    ([0], [0]), ([3], [3]), ([0, 1], [1, 2]), ([0, 3], [2, 3]), ([0, 1], [0, 1]),
    ([1, 0], [2, 3]), ([0, 1], [3, 2]), ([0, 0], [1, 2]), ([0, 1], [2, 2]), ([3, 0], [1, 2]),
    ([-1], [0]), ([0], [-1]), ([-4], [0]), ([4], [0]), ([0], [4]), ([0, 4], [1, 2]), ([10 ** 5000], [0]),
    ([0], [-10 ** 5000]),
]


def bad_pairs():
    found = list(BAD_PAIRS)
    for thing in NO_WHOLE_NUMBERS:
        found.extend([([thing], [3]), ([3], [thing]), ([0, thing], [2, 3]), ([2, 3], [thing, 1]), ([thing], [thing])])
    for thing in NO_LISTS:
        found.extend([(thing, []), ([], thing), (thing, [3]), ([3], thing), (thing, thing)])
    return found


class Interface(unittest.TestCase):
    def test_arguments(self):
        for function, names in (
            (behind, ["marks", "left", "right", "outcome"]),
            (judged, ["marks", "left", "right"]),
            (weighed, ["coins", "odd", "heavy", "left", "right"]),
        ):
            self.assertEqual(list(inspect.signature(function).parameters), names)


class Weighed(unittest.TestCase):
    def test_the_heavy_side_goes_down(self):
        self.assertEqual(weighed(4, 0, True, [0, 1], [2, 3]), "left")
        self.assertEqual(weighed(4, 3, True, [0, 1], [2, 3]), "right")

    def test_the_side_across_a_light_coin_goes_down(self):
        self.assertEqual(weighed(4, 1, False, [0, 1], [2, 3]), "right")
        self.assertEqual(weighed(4, 2, False, [0, 1], [2, 3]), "left")

    def test_even_without_the_odd_coin(self):
        self.assertEqual(weighed(5, 4, True, [0, 1], [2, 3]), "even")
        self.assertEqual(weighed(5, 4, False, [0, 1], [2, 3]), "even")
        self.assertEqual(weighed(4, -1, True, [0, 1], [2, 3]), "even")
        self.assertEqual(weighed(4, -1, False, [0, 1], [2, 3]), "even")

    def test_the_coin_beside_on_a_side(self):
        self.assertEqual(weighed(2, 0, True, [0], [2]), "left")
        self.assertEqual(weighed(2, 0, False, [0], [2]), "right")
        self.assertEqual(weighed(2, 1, True, [2], [1]), "right")
        self.assertEqual(weighed(2, 1, True, [0], [2]), "even")

    def test_none_on_either_side(self):
        self.assertEqual(weighed(1, 0, True, [], []), "even")
        self.assertEqual(weighed(1, 0, False, [], []), "even")
        self.assertEqual(weighed(0, -1, True, [], []), "even")

    def test_no_coins_at_all(self):
        self.assertRaises(BadWeighing, weighed, 0, -1, True, [0], [])
        self.assertRaises(BadWeighing, weighed, 0, -1, True, [0], [1])
        self.assertRaises(BadCoin, weighed, 0, 0, True, [], [])

    def test_more_coins_than_could_be_listed(self):
        many = 10 ** 30
        self.assertEqual(weighed(many, many - 1, True, [0], [many - 1]), "right")
        self.assertEqual(weighed(many, many - 1, False, [0], [many - 1]), "left")
        self.assertEqual(weighed(many, 5, True, [0], [many]), "even")

    def test_all_small_ones(self):
        for coins in range(5):
            for left, right in all_weighings(coins):
                for odd in range(-1, coins):
                    for heavy in (True, False):
                        case = (odd, 0) if odd == -1 else (odd, 1 if heavy else -1)
                        self.assertEqual(weighed(coins, odd, heavy, left, right), on_the_scale(case, left, right))


class Judged(unittest.TestCase):
    def test_ordinary_ones(self):
        self.assertEqual(judged("e" * 12, [0, 1, 2, 3], [4, 5, 6, 7]), (8, 8, 9))
        self.assertEqual(judged("hhl", [0], [1]), (1, 1, 1))
        self.assertEqual(judged("hhhl", [0, 3], [1, 4]), (1, 2, 1))
        self.assertEqual(judged("lgh", [0], [1]), (0, 1, 1))

    def test_a_tuple_of_whole_numbers(self):
        for marks in ("eee", "hhl", "ggg"):
            counts = judged(marks, [0], [1])
            self.assertIs(type(counts), tuple)
            self.assertEqual([type(count) for count in counts], [int, int, int])

    def test_the_coin_beside_on_a_side(self):
        self.assertEqual(judged("e", [0], [1]), (1, 1, 1))
        self.assertEqual(judged("h", [0], [1]), (1, 0, 0))
        self.assertEqual(judged("h", [1], [0]), (0, 1, 0))
        self.assertEqual(judged("l", [0], [1]), (0, 1, 0))
        self.assertEqual(judged("g", [0], [1]), (0, 0, 1))

    def test_none_on_either_side(self):
        self.assertEqual(judged("", [], []), (0, 0, 1))
        self.assertEqual(judged("ee", [], []), (0, 0, 5))
        self.assertEqual(judged("hl", [], []), (0, 0, 2))
        self.assertEqual(judged("g", [], []), (0, 0, 1))

    def test_all_small_ones(self):
        for marks in all_marks(4):
            for left, right in all_weighings(len(marks)):
                came = [on_the_scale(case, left, right) for case in case_list(marks)]
                expected = tuple(came.count(outcome) for outcome in OUTCOMES)
                self.assertEqual(judged(marks, left, right), expected)

    def test_many_coins(self):
        many = 60000
        left = list(range(many // 3))
        right = list(range(many // 3, 2 * many // 3))
        self.assertEqual(judged("e" * many, left, right), (40000, 40000, 40001))


class Behind(unittest.TestCase):
    def test_ordinary_ones(self):
        self.assertEqual(behind("eeee", [0], [1], "left"), "hlgg")
        self.assertEqual(behind("eeee", [0], [1], "right"), "lhgg")
        self.assertEqual(behind("eeee", [0], [1], "even"), "ggee")
        self.assertEqual(behind("hhllg", [0, 2], [1, 3], "left"), "hgglg")
        self.assertEqual(behind("hhllg", [0, 2], [1, 3], "right"), "ghlgg")
        self.assertEqual(behind("hhllg", [0], [4], "even"), "ghllg")

    def test_the_coin_beside_has_no_sign(self):
        self.assertEqual(behind("e", [0], [1], "left"), "h")
        self.assertEqual(behind("e", [0], [1], "right"), "l")
        self.assertEqual(behind("e", [1], [0], "left"), "l")
        self.assertEqual(behind("e", [1], [0], "even"), "g")

    def test_none_on_either_side(self):
        for marks in ("", "g", "e", "hl", "ege"):
            self.assertEqual(behind(marks, [], [], "even"), marks)
            self.assertRaises(Never, behind, marks, [], [], "left")
            self.assertRaises(Never, behind, marks, [], [], "right")

    def test_one_case_alone(self):
        self.assertEqual(behind("gh", [1], [0], "left"), "gh")
        self.assertRaises(Never, behind, "gh", [1], [0], "right")
        self.assertRaises(Never, behind, "gh", [1], [0], "even")
        self.assertEqual(behind("gg", [0], [1], "even"), "gg")
        self.assertRaises(Never, behind, "gg", [0], [1], "left")

    def test_even_cannot_come_with_all_that_may_be_odd_on_the_scale(self):
        self.assertRaises(Never, behind, "hh", [0], [1], "even")
        self.assertRaises(Never, behind, "hgl", [0], [2], "even")
        self.assertRaises(Never, behind, "hgl", [0], [2], "right")
        self.assertEqual(behind("ee", [0], [1], "even"), "gg")

    def test_all_small_ones(self):
        for marks in all_marks(4):
            for left, right in all_weighings(len(marks)):
                for outcome in OUTCOMES:
                    self.check(marks, left, right, outcome)

    def check(self, marks, left, right, outcome):
        expected = [case for case in case_list(marks) if on_the_scale(case, left, right) == outcome]
        if expected:
            after = behind(marks, left, right, outcome)
            self.assertIs(type(after), str)
            self.assertEqual(len(after), len(marks))
            self.assertEqual(case_list(after), expected)
        else:
            self.assertRaises(Never, behind, marks, left, right, outcome)

    def test_many_coins(self):
        many = 30000
        after = behind("e" * many, list(range(10000)), list(range(10000, 20000)), "right")
        self.assertEqual(after, "l" * 10000 + "h" * 10000 + "g" * 10000)


class RefusedMarks(unittest.TestCase):
    def test_wrong_marks(self):
        for number, thing in enumerate(NO_TEXTS + ["x", "E", "eh", "lge", "e ", "\u00e9"]):
            with self.subTest(number=number):
                self.assertRaises(BadMarks, judged, thing, [], [])
                self.assertRaises(BadMarks, behind, thing, [], [], "even")

    def test_marks_come_before_all_else(self):
        for number, thing in enumerate(NO_TEXTS + ["x", "eh"]):
            with self.subTest(number=number):
                self.assertRaises(BadMarks, judged, thing, None, None)
                self.assertRaises(BadMarks, judged, thing, [0], [0])
                self.assertRaises(BadMarks, behind, thing, None, None, "even")
                self.assertRaises(BadMarks, behind, thing, [], [], None)
                self.assertRaises(BadMarks, behind, thing, [], [], "left")


class RefusedWeighing(unittest.TestCase):
    def test_wrong_weighings(self):
        for number, (left, right) in enumerate(bad_pairs()):
            with self.subTest(number=number):
                for marks in ("eee", "hgl", "ggg"):
                    self.assertRaises(BadWeighing, judged, marks, left, right)
                    self.assertRaises(BadWeighing, behind, marks, left, right, "even")
                self.assertRaises(BadWeighing, weighed, 3, -1, True, left, right)
                self.assertRaises(BadWeighing, weighed, 3, 0, False, left, right)

    def test_weighings_come_before_outcomes_and_never(self):
        for number, (left, right) in enumerate(bad_pairs()):
            with self.subTest(number=number):
                self.assertRaises(BadWeighing, behind, "ggg", left, right, "left")
                self.assertRaises(BadWeighing, behind, "eee", left, right, "down")
                self.assertRaises(BadWeighing, behind, "eee", left, right, None)

    def test_a_list_within_itself(self):
        side = [0]
        side.append(side)
        self.assertRaises(BadWeighing, judged, "eee", side, [2, 3])
        self.assertRaises(BadWeighing, judged, "eee", [2, 3], side)

    def test_the_coin_beside_is_the_last_count(self):
        for marks in ("", "e", "hl", "ggg"):
            many = len(marks)
            self.assertRaises(BadWeighing, judged, marks, [0], [many + 1])
            self.assertRaises(BadWeighing, judged, marks, [many + 1], [0])
            self.assertRaises(BadWeighing, weighed, many, -1, True, [0], [many + 1])
            if many:
                self.assertEqual(sum(judged(marks, [0], [many])), len(case_list(marks)))
                self.assertEqual(weighed(many, -1, True, [0], [many]), "even")


class RefusedOutcome(unittest.TestCase):
    def test_wrong_outcomes(self):
        for number, thing in enumerate(NO_TEXTS + BAD_OUTCOMES):
            with self.subTest(number=number):
                self.assertRaises(BadOutcome, behind, "ee", [0], [1], thing)

    def test_wrong_outcomes_where_little_or_nothing_can_come(self):
        for number, thing in enumerate(NO_TEXTS + BAD_OUTCOMES):
            with self.subTest(number=number):
                self.assertRaises(BadOutcome, behind, "", [], [], thing)
                self.assertRaises(BadOutcome, behind, "hh", [0], [1], thing)


class RefusedCoin(unittest.TestCase):
    def test_wrong_counts_of_coins(self):
        for number, thing in enumerate(NO_WHOLE_NUMBERS + [-1, -2, -10 ** 5000]):
            with self.subTest(number=number):
                self.assertRaises(BadCoin, weighed, thing, -1, True, [], [])
                self.assertRaises(BadCoin, weighed, thing, 0, True, [], [])

    def test_wrong_odd_coins(self):
        for number, thing in enumerate(NO_WHOLE_NUMBERS + [-2, 3, 4, 10 ** 5000, -10 ** 5000]):
            with self.subTest(number=number):
                self.assertRaises(BadCoin, weighed, 3, thing, True, [], [])
                self.assertRaises(BadCoin, weighed, 3, thing, False, [0], [3])

    def test_wrong_truths(self):
        for number, thing in enumerate(NO_TRUTHS):
            for odd in (-1, 0, 2):
                with self.subTest(number=number, odd=odd):
                    self.assertRaises(BadCoin, weighed, 3, odd, thing, [0], [1])

    def test_coins_come_before_weighings(self):
        for number, (left, right) in enumerate(bad_pairs()):
            with self.subTest(number=number):
                self.assertRaises(BadCoin, weighed, True, -1, True, left, right)
                self.assertRaises(BadCoin, weighed, -1, -1, True, left, right)
                self.assertRaises(BadCoin, weighed, 3, 3, True, left, right)
                self.assertRaises(BadCoin, weighed, 3, -1, 1, left, right)
        self.assertRaises(BadCoin, weighed, None, EqualToAll(), None, None, None)


class HandedIn(unittest.TestCase):
    def test_lists_stay_as_they_were(self):
        left, right = [0, 3], [1, 4]
        for outcome in OUTCOMES:
            behind("eeee", left, right, outcome)
        judged("eeee", left, right)
        weighed(4, 1, True, left, right)
        self.assertEqual((left, right), ([0, 3], [1, 4]))

    def test_refused_lists_stay_as_they_were(self):
        left, right = [3, 0], [1, 1]
        self.assertRaises(BadWeighing, behind, "eeee", left, right, "even")
        self.assertRaises(BadWeighing, judged, "eeee", left, right)
        self.assertRaises(BadWeighing, weighed, 4, 1, True, left, right)
        self.assertEqual((left, right), ([3, 0], [1, 1]))

    def test_nothing_is_kept(self):
        left, right = [0], [1]
        first = judged("eee", left, right), behind("eee", left, right, "left"), weighed(3, 0, True, left, right)
        left.append(2)
        right.append(3)
        self.assertEqual(first, ((2, 2, 3), "hlg", "left"))
        self.assertEqual(judged("eee", left, right), (3, 3, 1))
        self.assertEqual(behind("eee", left, right, "left"), "hlh")
        self.assertEqual(weighed(3, 2, True, left, right), "left")


if __name__ == "__main__":
    unittest.main()
