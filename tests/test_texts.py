import inspect
import itertools
import re
import unittest

from oddcoin.errors import BadText, BadWeighing
from oddcoin.telling import told
from oddcoin.texts import read, written
from samples import NO_LISTS, NO_TEXTS, NO_WHOLE_NUMBERS, all_weighings, is_weighing

BOUND = 1000000000

PAIRS = [
    ([], []), ([0], [1]), ([1], [0]), ([0, 1], [2, 3]), ([2, 3], [0, 1]), ([0, 3], [1, 2]), ([9], [10]), ([10], [9]),
    ([0, 10, 100], [1, 11, 101]), ([7, 70], [77, 700]), ([0], [BOUND - 1]), ([BOUND - 1], [0]),
    ([BOUND - 2], [BOUND - 1]), ([1, BOUND - 1], [2, BOUND - 2]), ([123456789], [98765432]),
]

SIGNS = "".join(chr(code) for code in range(127))

ONE_COUNT = r"(0|[1-9][0-9]{0,8})"
FORM = re.compile(r"\A%s( %s)* \| %s( %s)*\Z" % ((ONE_COUNT,) * 4))


def expected(text):
    """The two lists that a text is to be read to, or None, by a pattern and the rule of weighings."""
    if text == "-":
        return ([], [])
    if not FORM.match(text):
        return None
    left, right = ([int(figures) for figures in side.split()] for side in text.split("|"))
    return (left, right) if is_weighing(BOUND - 1, left, right) else None


def neighbours(text):
    """Every text that differs by one sign put in, left out or exchanged."""
    found = set()
    for place in range(len(text) + 1):
        found.update(text[:place] + sign + text[place:] for sign in SIGNS)
        if place < len(text):
            found.add(text[:place] + text[place + 1:])
            found.update(text[:place] + sign + text[place + 1:] for sign in SIGNS)
    return sorted(found)


class Interface(unittest.TestCase):
    def test_arguments(self):
        self.assertEqual(list(inspect.signature(written).parameters), ["left", "right"])
        self.assertEqual(list(inspect.signature(read).parameters), ["text"])

    def test_kinds(self):
        for left, right in PAIRS:
            text = written(left, right)
            self.assertIs(type(text), str)
            pair = read(text)
            self.assertIs(type(pair), tuple)
            self.assertEqual([type(side) for side in pair], [list, list])
            self.assertTrue(all(type(coin) is int for side in pair for coin in side))


class Written(unittest.TestCase):
    def test_ordinary_ones(self):
        self.assertEqual(written([0], [1]), "0 | 1")
        self.assertEqual(written([0, 2], [1, 13]), "0 2 | 1 13")
        self.assertEqual(written([10, 100, 1000], [0, 1, 2]), "10 100 1000 | 0 1 2")

    def test_none_on_both_sides(self):
        self.assertEqual(written([], []), "-")

    def test_the_bound(self):
        self.assertEqual(written([999999999], [999999998]), "999999999 | 999999998")
        for count in (BOUND, BOUND + 1, 10 * BOUND, 2 ** 64, 10 ** 5000):
            for left, right in (([count], [0]), ([0], [count]), ([0, count], [1, 2]), ([1, 2], [3, count])):
                self.assertRaises(BadWeighing, written, left, right)

    def test_what_is_told_is_written(self):
        for marks in ("e", "eeee", "hl", "hhl", "e" * 13, "hl" * 13):
            answer = told(marks)
            self.assertEqual(read(written(answer.left, answer.right)), (answer.left, answer.right))
        self.assertEqual(written([0, 1, 2, 3], [4, 5, 6, 12]), "0 1 2 3 | 4 5 6 12")

    def test_long_lists(self):
        left, right = list(range(0, 40000, 2)), list(range(1, 40000, 2))
        text = written(left, right)
        self.assertEqual(text, " ".join(map(str, left)) + " | " + " ".join(map(str, right)))
        self.assertEqual(read(text), (left, right))


class WrittenRefused(unittest.TestCase):
    def test_no_weighings(self):
        for left, right in (
            ([0], []), ([], [0]), ([0, 1], [2]), ([0], [1, 2]), ([0], [0]), ([0, 1], [1, 2]), ([1, 0], [2, 3]),
            ([0, 1], [3, 2]), ([0, 0], [1, 2]), ([1, 2], [0, 0]), ([-1], [0]), ([0], [-1]), ([-2, -1], [0, 1]),
            ([0], [-10 ** 5000]), ([[0]], [[1]]),
        ):
            with self.subTest(left=left, number=len(right)):
                self.assertRaises(BadWeighing, written, left, right)

    def test_all_small_lists(self):
        sides = [list(side) for many in range(3) for side in itertools.product(range(-1, 4), repeat=many)]
        for left, right in itertools.product(sides, repeat=2):
            if is_weighing(BOUND - 1, left, right):
                self.assertEqual(read(written(left, right)), (left, right))
            else:
                self.assertRaises(BadWeighing, written, left, right)

    def test_what_is_no_whole_number(self):
        for number, thing in enumerate(NO_WHOLE_NUMBERS):
            with self.subTest(number=number):
                for left, right in (([thing], [3]), ([3], [thing]), ([0, thing], [2, 3]), ([2, 3], [thing, 5])):
                    self.assertRaises(BadWeighing, written, left, right)

    def test_what_is_no_list(self):
        for number, thing in enumerate(NO_LISTS):
            with self.subTest(number=number):
                for left, right in ((thing, []), ([], thing), (thing, [3]), ([3], thing), (thing, thing)):
                    self.assertRaises(BadWeighing, written, left, right)

    def test_a_list_within_itself(self):
        side = [0]
        side.append(side)
        self.assertRaises(BadWeighing, written, side, [1, 2])
        self.assertRaises(BadWeighing, written, [1, 2], side)


class Read(unittest.TestCase):
    def test_ordinary_ones(self):
        self.assertEqual(read("0 | 1"), ([0], [1]))
        self.assertEqual(read("0 2 | 1 13"), ([0, 2], [1, 13]))
        self.assertEqual(read("-"), ([], []))
        self.assertEqual(read("10 | 9"), ([10], [9]))

    def test_each_weighing_written_is_read(self):
        for left, right in PAIRS + all_weighings(6):
            self.assertEqual(read(written(left, right)), (left, right))

    def test_the_bound(self):
        self.assertEqual(read("999999999 | 999999998"), ([999999999], [999999998]))
        self.assertEqual(read("0 999999998 | 1 999999999"), ([0, 999999998], [1, 999999999]))
        for figures in ("1000000000", "1000000001", "9999999999", "10000000000", "18446744073709551616", "1" * 5000):
            self.assertRaises(BadText, read, figures + " | 0")
            self.assertRaises(BadText, read, "0 | " + figures)
            self.assertRaises(BadText, read, "0 " + figures + " | 1 2")

    def test_needless_noughts(self):
        for text in ("00 | 1", "0 | 01", "01 | 2", "0 | 00", "0000000000 | 1", "0 | 0999999999", "0" * 5000 + " | 1"):
            self.assertRaises(BadText, read, text)

    def test_no_weighings(self):
        for text in (
            "0 | 0", "1 0 | 2 3", "0 1 | 3 2", "0 0 | 1 2", "0 1 | 2", "0 | 1 2", "0 1 | 1 2", "0 1 | 0 1", "5 5 | 6 6",
            "2 10 | 9 1", "10 9 | 1 2",
        ):
            self.assertRaises(BadText, read, text)

    def test_other_forms(self):
        for text in (
            "", " ", "|", " | ", "- | -", "--", " -", "- ", "-\n", "\n-", "0", "0 1", "0 |", "| 1", "0 | ", " | 1",
            "0|1", "0 |1", "0| 1", "0  | 1", "0 |  1", " 0 | 1", "0 | 1 ", "0 | 1\n", "\n0 | 1", "0\t| 1", "0\n|\n1",
            "0  1 | 2 3", "0 | 1 | 2", "0 | | 1", "0 || 1", "0 | 1 |", "0,1 | 2,3", "[0] | [1]", "+0 | 1", "0 | +1",
            "-0 | 1", "0 | -1", "1_0 | 2", "0 | 1_0", "0x1 | 2", "1.0 | 2", "1e1 | 2", "0 | 1\0", "a | b", "- | 1",
            "0 | -", "-1 | 0",
            "0\r| 1", "0 \x0b| 1", "0 | 1\x1c",
        ):
            with self.subTest(text=text):
                self.assertRaises(BadText, read, text)

    def test_neighbours_of_what_is_written(self):
        for left, right in PAIRS:
            for text in neighbours(written(left, right)):
                self.check(text)

    def test_all_short_texts(self):
        for many in range(7):
            for signs in itertools.product(" |-012", repeat=many):
                self.check("".join(signs))

    def check(self, text):
        pair = expected(text)
        if pair is None:
            self.assertRaises(BadText, read, text)
        else:
            self.assertEqual(read(text), pair, text)
            self.assertEqual(written(pair[0], pair[1]), text)

    def test_what_is_no_text(self):
        for number, thing in enumerate(NO_TEXTS + [b"-", b"0 | 1", ["0 | 1"], ("-",), ([], []), [[0], [1]]]):
            with self.subTest(number=number):
                self.assertRaises(BadText, read, thing)


class HandedIn(unittest.TestCase):
    def test_lists_stay_as_they_were(self):
        left, right = [0, 3], [1, 4]
        written(left, right)
        self.assertEqual((left, right), ([0, 3], [1, 4]))
        left, right = [3, 0], [1, 1]
        self.assertRaises(BadWeighing, written, left, right)
        self.assertEqual((left, right), ([3, 0], [1, 1]))

    def test_what_is_read_may_be_changed(self):
        for text in ("-", "0 | 1", "0 2 | 1 3"):
            first = read(text)
            before = (list(first[0]), list(first[1]))
            self.assertIsNot(first[0], first[1])
            first[0].append(7)
            first[1].clear()
            self.assertEqual(read(text), before)

    def test_nothing_is_kept(self):
        left, right = [0], [1]
        text = written(left, right)
        left.append(2)
        right.append(3)
        self.assertEqual(text, "0 | 1")
        self.assertEqual(written(left, right), "0 2 | 1 3")


if __name__ == "__main__":
    unittest.main()
