import inspect
import itertools
import unittest

from oddcoin.errors import BadMarks
from oddcoin.marks import cases, fewest
from oddcoin.weighing import behind, judged
from samples import NO_TEXTS, all_marks, all_weighings, case_list

BAD_TEXTS = [
    "x", "E", "H", "L", "G", " ", "e ", " e", "e\n", "\n", "\0", "0", "-", "ge?", "hl,", "even", "left",
    "\u00e9", "\u0435", "\uff45", "\ud800",
    "eh", "he", "el", "le", "egh", "hge", "eggl", "lgge", "ehl", "hle", "eeeh", "g" * 1000 + "e" + "g" * 1000 + "l",
]


class Interface(unittest.TestCase):
    def test_arguments(self):
        for function in (cases, fewest):
            self.assertEqual(list(inspect.signature(function).parameters), ["marks"])


class Cases(unittest.TestCase):
    def test_no_coins_at_all(self):
        self.assertEqual(cases(""), 1)

    def test_good_coins_alone(self):
        self.assertEqual(cases("g"), 1)
        self.assertEqual(cases("gggg"), 1)

    def test_one_case_alone(self):
        self.assertEqual(cases("h"), 1)
        self.assertEqual(cases("l"), 1)
        self.assertEqual(cases("ghg"), 1)
        self.assertEqual(cases("ggl"), 1)

    def test_e_is_two_cases_and_none_odd_is_one_more(self):
        self.assertEqual(cases("e"), 3)
        self.assertEqual(cases("ege"), 5)
        self.assertEqual(cases("e" * 12), 25)

    def test_with_h_or_l_some_coin_is_odd(self):
        self.assertEqual(cases("hh"), 2)
        self.assertEqual(cases("hl"), 2)
        self.assertEqual(cases("lgl"), 2)
        self.assertEqual(cases("hhlgl"), 4)

    def test_all_small_marks(self):
        for marks in all_marks(5):
            with self.subTest(marks=marks):
                self.assertEqual(cases(marks), len(case_list(marks)))

    def test_many_coins(self):
        self.assertEqual(cases("e" * 100000), 200001)
        self.assertEqual(cases("hl" * 100000), 200000)

    def test_a_whole_number_is_told(self):
        for marks in ("", "e", "h", "gl"):
            self.assertIs(type(cases(marks)), int)
            self.assertIs(type(fewest(marks)), int)


class Fewest(unittest.TestCase):
    def test_none_of_one_case(self):
        for marks in ("", "g", "ggg", "h", "l", "gh", "lgg"):
            with self.subTest(marks=marks):
                self.assertEqual(fewest(marks), 0)

    def test_powers_of_3_and_one_more(self):
        for times in range(1, 11):
            many = 3 ** times
            with self.subTest(many=many):
                self.assertEqual(fewest("h" * (many - 1)), times)
                self.assertEqual(fewest("h" * many), times)
                self.assertEqual(fewest("l" * many), times)
                self.assertEqual(fewest("h" * (many + 1)), times + 1)
                self.assertEqual(fewest("h" + "l" * many), times + 1)

    def test_powers_of_3_with_e(self):
        for times in range(1, 11):
            coins = (3 ** times - 1) // 2
            with self.subTest(coins=coins):
                self.assertEqual(fewest("e" * coins), times)
                self.assertEqual(fewest("g" + "e" * coins + "g"), times)
                self.assertEqual(fewest("e" * (coins + 1)), times + 1)

    def test_few_cases(self):
        self.assertEqual([fewest("h" * many) for many in range(1, 11)], [0, 1, 1, 2, 2, 2, 2, 2, 2, 3])
        self.assertEqual([fewest("e" * coins) for coins in range(6)], [0, 1, 2, 2, 2, 3])

    def test_they_are_the_fewest_that_always_do(self):
        known = {}
        for marks in all_marks(4):
            with self.subTest(marks=marks):
                self.assertEqual(fewest(marks), self.searched(marks, known))

    def searched(self, marks, known):
        """The fewest by trying all weighings that tell anything at all."""
        if marks not in known:
            best = 0 if cases(marks) == 1 else None
            for left, right in [] if best == 0 else all_weighings(len(marks)):
                counts = dict(zip(("left", "right", "even"), judged(marks, left, right)))
                if max(counts.values()) < cases(marks):
                    worst = 1 + max(
                        self.searched(behind(marks, left, right, outcome), known)
                        for outcome in counts if counts[outcome]
                    )
                    best = worst if best is None else min(best, worst)
            known[marks] = best
        return known[marks]


class Refused(unittest.TestCase):
    def test_texts_that_are_no_marks(self):
        for marks in BAD_TEXTS:
            for function in (cases, fewest):
                with self.subTest(marks=marks, function=function):
                    self.assertRaises(BadMarks, function, marks)

    def test_just_the_marks_are_taken(self):
        good = set(all_marks(4))
        for count in range(5):
            for signs in itertools.product("ehlgx", repeat=count):
                marks = "".join(signs)
                if marks not in good:
                    self.assertRaises(BadMarks, cases, marks)
                    self.assertRaises(BadMarks, fewest, marks)

    def test_what_is_no_text(self):
        for number, thing in enumerate(NO_TEXTS):
            for function in (cases, fewest):
                with self.subTest(number=number, function=function):
                    self.assertRaises(BadMarks, function, thing)

    def test_a_list_stays_as_it_was(self):
        signs = ["e", "g"]
        for function in (cases, fewest):
            self.assertRaises(BadMarks, function, signs)
            self.assertEqual(signs, ["e", "g"])


if __name__ == "__main__":
    unittest.main()
