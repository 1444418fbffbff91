import inspect
import unittest

from oddcoin.answers import Answer, Heavy, Light, Nothing, Open
from oddcoin.errors import BadMarks
from oddcoin.marks import cases, fewest
from oddcoin.telling import told
from oddcoin.weighing import behind, judged, weighed
from samples import NO_TEXTS, all_marks, case_list, edge_marks, is_first_weighing, is_weighing, mixed, on_the_scale

OUTCOMES = ("left", "right", "even")

BAD_TEXTS = ["x", "E", " ", "e ", "h\n", "\0", "0", "eh", "le", "egh", "lgge", "ehl", "\u00e9", "\u0435", "\ud800"]


class Interface(unittest.TestCase):
    def test_arguments(self):
        self.assertEqual(list(inspect.signature(told).parameters), ["marks"])

    def test_kinds(self):
        for marks in all_marks(4):
            answer = told(marks)
            self.assertIsInstance(answer, Answer)
            self.assertIn(type(answer), (Heavy, Light, Nothing, Open))
            if isinstance(answer, Open):
                self.assertEqual((type(answer.left), type(answer.right)), (list, list))
                self.assertEqual({type(count) for count in answer.left + answer.right + [answer.many]}, {int})
            elif not isinstance(answer, Nothing):
                self.assertIs(type(answer.coin), int)


class FourThings(unittest.TestCase):
    def test_no_coins_at_all(self):
        self.assertIs(type(told("")), Nothing)

    def test_good_coins_alone(self):
        for many in (1, 2, 3, 100):
            self.assertIs(type(told("g" * many)), Nothing)

    def test_one_case_alone(self):
        for before in range(4):
            for after in range(4):
                heavy = told("g" * before + "h" + "g" * after)
                self.assertEqual((type(heavy), heavy.coin), (Heavy, before))
                light = told("g" * before + "l" + "g" * after)
                self.assertEqual((type(light), light.coin), (Light, before))

    def test_more_cases(self):
        for marks in ("e", "ge", "hh", "hl", "lh", "ll", "hgl", "eeee"):
            self.assertIs(type(told(marks)), Open)

    def test_all_small_marks(self):
        for marks in all_marks(5):
            found = case_list(marks)
            answer = told(marks)
            if len(found) > 1:
                self.assertIs(type(answer), Open)
            elif found == [(-1, 0)]:
                self.assertIs(type(answer), Nothing)
            else:
                self.assertEqual((type(answer), answer.coin), (Heavy if found[0][1] == 1 else Light, found[0][0]))


class Weighings(unittest.TestCase):
    def check(self, marks):
        answer = told(marks)
        self.assertIs(answer.shows(marks), True, marks)
        if isinstance(answer, Open):
            self.assertTrue(is_first_weighing(marks, answer.left, answer.right, answer.many), (marks, vars(answer)))
        else:
            self.assertEqual(len(case_list(marks)), 1, marks)

    def test_all_small_marks(self):
        for marks in all_marks(6):
            self.check(marks)

    def test_edges(self):
        for marks in edge_marks(4):
            self.check(marks)

    def test_every_share_of_heavy_and_light(self):
        for many in range(2, 31):
            for heavy in range(many + 1):
                one, other = "h" * heavy, "l" * (many - heavy)
                for marks in (one + other, other + one, mixed(one, other), mixed(one + other, "g" * many)):
                    self.check(marks)

    def test_every_count_that_may_be_either(self):
        for many in range(45):
            for marks in ("e" * many, "g" + "e" * many, "e" * many + "gg", mixed("e" * many, "g" * many)):
                self.check(marks)

    def test_numbers_by_hand(self):
        for marks, many in (
            ("hl", 1), ("hhh", 1), ("e", 1), ("ee", 2), ("eeee", 2), ("eeeee", 3), ("h" * 9, 2), ("h" * 10, 3),
            ("e" * 13, 3), ("e" * 14, 4), ("hl" * 13 + "l", 3), ("hl" * 14, 4),
        ):
            self.assertEqual(told(marks).many, many, marks)

    def test_the_number_is_that_of_fewest(self):
        for marks in edge_marks(5):
            answer = told(marks)
            self.assertEqual(answer.many if isinstance(answer, Open) else 0, fewest(marks))

    def test_many_coins(self):
        for times in (8, 9, 10):
            many = 3 ** times
            for marks in (
                "h" * (many - 1), "h" * many, "h" * (many + 1), "l" * many, "h" + "l" * (many - 1),
                "h" * (many - 1) + "l", "hl" * (many // 2) + "l", "e" * (many // 2), "e" * (many // 2 + 1),
                "ge" * (many // 2),
            ):
                answer = told(marks)
                counts = judged(marks, answer.left, answer.right)
                self.assertTrue(is_weighing(len(marks), answer.left, answer.right))
                self.assertLessEqual(3 ** (answer.many - 1), cases(marks) - 1)
                self.assertGreaterEqual(3 ** answer.many, cases(marks))
                self.assertLessEqual(max(counts), 3 ** (answer.many - 1))


class WeighedAsTold(unittest.TestCase):
    """One who weighs as is told comes to the case that is so, behind no more weighings than were told at first."""

    def walk(self, marks, left_over):
        """Every way through the outcomes that can come; gives back the cases at the ends."""
        answer = told(marks)
        self.assertIs(answer.shows(marks), True)
        if isinstance(answer, Nothing):
            return [(-1, 0)]
        if isinstance(answer, (Heavy, Light)):
            return [(answer.coin, 1 if isinstance(answer, Heavy) else -1)]
        self.assertLessEqual(answer.many, left_over)
        ends = []
        counts = judged(marks, answer.left, answer.right)
        for outcome, many in zip(OUTCOMES, counts):
            if many:
                ends.extend(self.walk(behind(marks, answer.left, answer.right, outcome), answer.many - 1))
        return ends

    def check(self, marks):
        self.assertEqual(sorted(self.walk(marks, fewest(marks))), sorted(case_list(marks)), marks)

    def test_all_small_marks(self):
        for marks in all_marks(6):
            self.check(marks)

    def test_edges(self):
        for marks in edge_marks(4):
            self.check(marks)

    def test_each_case_on_its_own(self):
        for marks in all_marks(4) + ["e" * 12, "e" * 13, "gege" * 4, "h" * 9, "hl" * 5, "l" * 27]:
            for coin, more in case_list(marks):
                self.follow(marks, coin, more)

    def follow(self, marks, coin, more):
        known, done, answer = marks, 0, told(marks)
        first = answer.many if isinstance(answer, Open) else 0
        while isinstance(answer, Open):
            outcome = weighed(len(marks), coin, more == 1, answer.left, answer.right)
            self.assertEqual(outcome, on_the_scale((coin, more), answer.left, answer.right))
            known = behind(known, answer.left, answer.right, outcome)
            done += 1
            answer = told(known)
        self.assertLessEqual(done, first)
        if more == 0:
            self.assertIs(type(answer), Nothing)
        else:
            self.assertEqual((type(answer), answer.coin), (Heavy if more == 1 else Light, coin))

    def test_some_cases_of_many_coins(self):
        many = 3 ** 9
        for marks in ("e" * (many // 2), "h" * many, "h" + "l" * many):
            found = case_list(marks)
            for coin, more in found[:3] + found[many // 3:many // 3 + 2] + found[-3:]:
                self.follow(marks, coin, more)


class New(unittest.TestCase):
    def test_told_anew_each_time(self):
        for marks in ("e", "eeee", "hl", "hhhl"):
            first, second = told(marks), told(marks)
            self.assertIsNot(first, second)
            self.assertEqual(vars(first), vars(second))
            self.assertIsNot(first.left, second.left)
            self.assertIsNot(first.right, second.right)
            self.assertIsNot(first.left, first.right)

    def test_what_is_told_may_be_changed(self):
        for marks in ("e", "eeee", "hl", "hhhl", "e" * 13):
            answer = told(marks)
            before = (list(answer.left), list(answer.right), answer.many)
            answer.left.clear()
            answer.right.append(-5)
            answer.many = -1
            again = told(marks)
            self.assertEqual((again.left, again.right, again.many), before)

    def test_changed_fields_of_the_one_case(self):
        for marks in ("gh", "gl"):
            told(marks).coin = 7
            self.assertEqual(told(marks).coin, 1)
        self.assertIsNot(told("gh"), told("gh"))
        self.assertIsNot(told(""), told(""))


class Refused(unittest.TestCase):
    def test_texts_that_are_no_marks(self):
        for marks in BAD_TEXTS:
            with self.subTest(marks=marks):
                self.assertRaises(BadMarks, told, marks)

    def test_what_is_no_text(self):
        for number, thing in enumerate(NO_TEXTS):
            with self.subTest(number=number):
                self.assertRaises(BadMarks, told, thing)

    def test_a_list_stays_as_it_was(self):
        signs = ["e", "g"]
        self.assertRaises(BadMarks, told, signs)
        self.assertEqual(signs, ["e", "g"])


if __name__ == "__main__":
    unittest.main()
