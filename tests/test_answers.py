import inspect
import itertools
import unittest

from oddcoin.answers import Answer, Heavy, Light, Nothing, Open
from oddcoin.telling import told
from samples import all_marks, all_weighings, case_list, edge_marks, fewest_by_count, is_first_weighing, on_the_scale

HUGE = 10 ** 5000

NUMBERS = [-HUGE, -10 ** 9, -3, -2, -1, 0, 1, 2, 3, 4, 5, 10 ** 9, 2 ** 64, HUGE]


class Interface(unittest.TestCase):
    def test_straight_under_answer(self):
        for kind in (Heavy, Light, Nothing, Open):
            self.assertEqual(kind.__bases__, (Answer,))
        self.assertEqual(Answer.__bases__, (object,))

    def test_arguments(self):
        for kind, names in (
            (Heavy, ["coin"]), (Light, ["coin"]), (Nothing, []), (Open, ["left", "right", "many"]),
        ):
            self.assertEqual(list(inspect.signature(kind).parameters), names)
            self.assertEqual(list(inspect.signature(kind.shows).parameters), ["self", "marks"])

    def test_fields(self):
        self.assertEqual(vars(Heavy(3)), {"coin": 3})
        self.assertEqual(vars(Light(-HUGE)), {"coin": -HUGE})
        self.assertEqual(vars(Nothing()), {})
        self.assertEqual(vars(Open([0, 2], [1, 3], 2)), {"left": [0, 2], "right": [1, 3], "many": 2})

    def test_fields_by_name(self):
        self.assertEqual(vars(Heavy(coin=3)), {"coin": 3})
        self.assertEqual(vars(Light(coin=4)), {"coin": 4})
        self.assertEqual(vars(Open(many=1, right=[1], left=[0])), {"left": [0], "right": [1], "many": 1})

    def test_what_could_never_be_told_is_kept_as_it_is(self):
        self.assertEqual(vars(Open([3, -1, 3], [], -HUGE)), {"left": [3, -1, 3], "right": [], "many": -HUGE})


class Copied(unittest.TestCase):
    def test_lists_are_copied(self):
        left, right = [0], [1]
        answer = Open(left, right, 1)
        self.assertIsNot(answer.left, left)
        self.assertIsNot(answer.right, right)
        left.append(2)
        right.clear()
        self.assertEqual((answer.left, answer.right), ([0], [1]))
        self.assertIs(answer.shows("hhl"), True)

    def test_one_list_for_both_sides_is_copied_twice(self):
        side = []
        answer = Open(side, side, 1)
        answer.left.append(0)
        self.assertEqual((answer.left, answer.right, side), ([0], [], []))

    def test_lists_handed_in_stay_as_they_were(self):
        left, right = [3, 0], [1, 1, -1]
        answer = Open(left, right, 2)
        answer.shows("eeee")
        answer.left.append(7)
        answer.right.reverse()
        self.assertEqual((left, right), ([3, 0], [1, 1, -1]))

    def test_asking_changes_no_field(self):
        for answer in (Open([0], [1], 1), Open([1, 0], [5], -1), Heavy(0), Light(-1), Nothing()):
            before = repr(vars(answer))
            for marks in ("", "g", "h", "l", "hh", "hhl", "eeee"):
                answer.shows(marks)
            self.assertEqual(repr(vars(answer)), before)


class OneCase(unittest.TestCase):
    def test_ordinary_ones(self):
        self.assertIs(Heavy(0).shows("h"), True)
        self.assertIs(Heavy(1).shows("ghg"), True)
        self.assertIs(Light(2).shows("ggl"), True)
        self.assertIs(Nothing().shows("gg"), True)
        self.assertIs(Nothing().shows(""), True)

    def test_the_wrong_coin_or_the_wrong_way(self):
        self.assertIs(Heavy(0).shows("ghg"), False)
        self.assertIs(Heavy(1).shows("glg"), False)
        self.assertIs(Light(1).shows("ghg"), False)
        self.assertIs(Nothing().shows("ghg"), False)
        self.assertIs(Nothing().shows("l"), False)

    def test_counts_from_the_end_and_beyond_are_no_coins(self):
        for marks, right in (("h", 0), ("gh", 1), ("ggh", 2), ("hgg", 0), ("", None), ("gg", None)):
            for coin in NUMBERS:
                self.assertIs(Heavy(coin).shows(marks), coin == right, (marks, coin))
                self.assertIs(Light(coin).shows(marks.replace("h", "l")), coin == right, (marks, coin))

    def test_more_cases_than_one(self):
        for marks in ("e", "hh", "hl", "lh", "ll", "ge", "ghl"):
            for coin in range(-3, 4):
                self.assertIs(Heavy(coin).shows(marks), False)
                self.assertIs(Light(coin).shows(marks), False)
            self.assertIs(Nothing().shows(marks), False)

    def test_all_small_marks(self):
        for marks in all_marks(4):
            found = case_list(marks)
            for coin in range(-6, 7):
                self.assertIs(Heavy(coin).shows(marks), coin >= 0 and found == [(coin, 1)], (marks, coin))
                self.assertIs(Light(coin).shows(marks), coin >= 0 and found == [(coin, -1)], (marks, coin))
            self.assertIs(Nothing().shows(marks), found == [(-1, 0)], marks)

    def test_truths_are_no_coins(self):
        self.assertIs(Heavy(False).shows("h"), False)
        self.assertIs(Light(True).shows("gl"), False)

    def test_fields_changed_behind_the_making(self):
        for kind, marks in ((Heavy, "ggh"), (Light, "ggl")):
            answer = kind(0)
            self.assertIs(answer.shows(marks), False)
            answer.coin = 2
            self.assertIs(answer.shows(marks), True)
            answer.coin = -1
            self.assertIs(answer.shows(marks), False)
            answer.coin = HUGE
            self.assertIs(answer.shows(marks), False)


class OpenOnes(unittest.TestCase):
    def check(self, marks, left, right, many):
        expected = is_first_weighing(marks, left, right, many)
        self.assertIs(Open(left, right, many).shows(marks), expected, (marks, left, right, many))

    def test_ordinary_ones(self):
        self.assertIs(Open([0, 1, 2, 3], [4, 5, 6, 7], 3).shows("e" * 12), True)
        self.assertIs(Open([0, 1, 2], [3, 4, 5], 3).shows("e" * 12), False)
        self.assertIs(Open([0], [1], 1).shows("hhl"), True)
        self.assertIs(Open([0], [2], 1).shows("hhl"), False)
        self.assertIs(Open([2], [3], 1).shows("hhl"), False)

    def test_the_bound_of_cases_behind_an_outcome(self):
        self.assertIs(Open([0, 1, 2], [3, 4, 5], 2).shows("h" * 9), True)
        self.assertIs(Open([0, 1], [2, 3], 2).shows("h" * 9), False)
        self.assertIs(Open([0, 1, 2, 3], [4, 5, 6, 7], 2).shows("h" * 9), False)
        self.assertIs(Open([0, 1], [2, 3], 2).shows("h" * 7), True)
        self.assertIs(Open([0], [1], 2).shows("h" * 5), True)
        self.assertIs(Open([0], [1], 2).shows("h" * 6), False)

    def test_an_outcome_that_cannot_come_is_no_hindrance(self):
        self.assertIs(Open([0], [1], 1).shows("hh"), True)
        self.assertIs(Open([0], [2], 1).shows("hl"), True)

    def test_no_cases_or_one_are_never_open(self):
        for marks in ("", "g", "gg", "h", "gl"):
            for many in NUMBERS:
                self.assertIs(Open([], [], many).shows(marks), False)
                self.assertIs(Open([0], [1], many).shows(marks), False)

    def test_none_on_either_side_is_never_enough(self):
        for marks in ("e", "ee", "hh", "hl", "hhl", "h" * 4):
            for many in NUMBERS:
                self.assertIs(Open([], [], many).shows(marks), False)

    def test_all_small_weighings(self):
        for marks in all_marks(4):
            for left, right in all_weighings(len(marks)):
                for many in range(-1, 4):
                    self.check(marks, left, right, many)

    def test_all_small_lists(self):
        for marks in all_marks(2):
            counts = range(-1, len(marks) + 2)
            sides = [list(side) for many in range(3) for side in itertools.product(counts, repeat=many)]
            for left, right in itertools.product(sides, repeat=2):
                for many in range(3):
                    self.check(marks, left, right, many)

    def test_marks_forwards_and_backwards(self):
        self.assertIs(Open([0, 1], [4, 5], 2).shows("hhllg"), True)
        self.assertIs(Open([0, 5], [1, 2], 2).shows("gllhh"), True)
        self.assertIs(Open([0], [1], 1).shows("hhl"), True)
        self.assertIs(Open([1], [2], 1).shows("lhh"), True)
        self.assertIs(Open([0], [1], 1).shows("lhh"), False)


class OpenOnesChanged(unittest.TestCase):
    """What is told, changed a little; by weights on a scale it is known whether it is still right."""

    MARKS = [marks for marks in edge_marks(2) if len(case_list(marks)) > 1] + ["e" * 12, "e" * 13, "h" * 13 + "l" * 14]

    def check(self, marks, left, right, many):
        expected = is_first_weighing(marks, left, right, many)
        self.assertIs(Open(left, right, many).shows(marks), expected, (marks, left, right, many))
        return expected

    def test_as_told(self):
        for marks in self.MARKS:
            answer = told(marks)
            self.assertTrue(self.check(marks, answer.left, answer.right, answer.many))

    def test_sides_exchanged(self):
        for marks in self.MARKS:
            answer = told(marks)
            self.assertTrue(self.check(marks, answer.right, answer.left, answer.many))

    def test_other_numbers(self):
        for marks in self.MARKS:
            answer = told(marks)
            for many in [answer.many - 1, answer.many + 1, -answer.many] + NUMBERS:
                right = many == answer.many
                self.assertIs(Open(answer.left, answer.right, many).shows(marks), right, (marks, many))

    def test_a_coin_less(self):
        for marks in self.MARKS:
            answer = told(marks)
            self.assertFalse(self.check(marks, answer.left[1:], answer.right, answer.many))
            self.assertFalse(self.check(marks, answer.left, answer.right[:-1], answer.many))
            self.check(marks, answer.left[1:], answer.right[1:], answer.many)
            self.check(marks, answer.left[:-1], answer.right[:-1], answer.many)

    def test_a_coin_more(self):
        for marks in self.MARKS:
            answer = told(marks)
            for coin in range(-1, len(marks) + 2):
                more = sorted(answer.left + [coin])
                self.assertFalse(self.check(marks, more, answer.right, answer.many))
                self.assertFalse(self.check(marks, answer.right, more, answer.many))
                for other in range(-1, len(marks) + 2):
                    self.check(marks, more, sorted(answer.right + [other]), answer.many)

    def test_another_coin(self):
        for marks in self.MARKS:
            answer = told(marks)
            for coin in list(range(-2, len(marks) + 3)) + [HUGE, -HUGE]:
                for place in range(len(answer.left)):
                    left = answer.left[:place] + [coin] + answer.left[place + 1:]
                    self.check(marks, sorted(left), answer.right, answer.many)
                    right = answer.right[:place] + [coin] + answer.right[place + 1:]
                    self.check(marks, answer.left, sorted(right), answer.many)

    def test_sides_that_do_not_rise(self):
        for marks in self.MARKS:
            answer = told(marks)
            if len(answer.left) > 1:
                self.assertFalse(self.check(marks, answer.left[::-1], answer.right, answer.many))
                self.assertFalse(self.check(marks, answer.left, answer.right[::-1], answer.many))
            self.assertFalse(self.check(marks, answer.left * 2, answer.right * 2, answer.many))
            self.assertFalse(self.check(marks, answer.left, answer.left, answer.many))

    def test_truths_are_no_counts_and_no_numbers(self):
        self.assertIs(Open([0], [1], 1).shows("hh"), True)
        self.assertIs(Open([0], [True], 1).shows("hh"), False)
        self.assertIs(Open([False], [1], 1).shows("hh"), False)
        self.assertIs(Open([0], [1], True).shows("hh"), False)

    def test_fields_changed_behind_the_making(self):
        answer = Open([0], [1], 1)
        self.assertIs(answer.shows("hhl"), True)
        answer.many = 2
        self.assertIs(answer.shows("hhl"), False)
        answer.many = 1
        answer.left = [1]
        self.assertIs(answer.shows("hhl"), False)
        answer.right = [0]
        self.assertIs(answer.shows("hhl"), True)
        answer.right.append(3)
        self.assertIs(answer.shows("hhl"), False)
        answer.left.append(2)
        self.assertIs(answer.shows("hhl"), False)
        answer.left.clear()
        answer.right.clear()
        self.assertIs(answer.shows("hhl"), False)

    def test_fields_of_what_is_told_changed(self):
        answer = told("eeee")
        answer.many = 3
        self.assertIs(answer.shows("eeee"), False)
        answer = told("eeee")
        answer.left.pop()
        self.assertIs(answer.shows("eeee"), False)
        answer = told("gh")
        answer.coin = -1
        self.assertIs(answer.shows("gh"), False)

    def test_lists_without_end_nearly(self):
        many = 3 ** 9
        left, right = list(range(many // 3)), list(range(many // 3, 2 * many // 3))
        self.assertIs(Open(left, right, 9).shows("h" * many), True)
        self.assertIs(Open(left, right, 9).shows("l" * many), True)
        self.assertIs(Open(left, right, 9).shows("h" * (many + 1)), False)
        self.assertIs(Open(left, right, 9).shows("h" * (many - 1)), True)


class Scale(unittest.TestCase):
    """The measure that the tests above go by, on cases done by hand."""

    def test_by_hand(self):
        self.assertEqual([fewest_by_count(many) for many in (1, 2, 3, 4, 9, 10)], [0, 1, 1, 2, 2, 3])
        self.assertEqual(on_the_scale((0, -1), [0], [1]), "right")
        self.assertTrue(is_first_weighing("e", [0], [1], 1))
        self.assertFalse(is_first_weighing("e", [0], [2], 1))
        self.assertFalse(is_first_weighing("hhh", [0, 1], [2, 3], 1))


if __name__ == "__main__":
    unittest.main()
