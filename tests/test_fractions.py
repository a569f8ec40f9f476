"""Fractions: [4], and [2] of them."""

import unittest
from copy import deepcopy
from fractions import Fraction

from cutstairs.errors import NoNumber
from cutstairs.fractions import below, fraction, is_fraction, is_whole, minus, over, plus, times
from samples import Odd, as_number, as_told, odd_things

GREAT = 98765432109876543210
OTHER = 12345678901234567890
TOPS = (-GREAT, -12, -7, -6, -1, 0, 1, 2, 5, 6, 12, 13, OTHER, GREAT)
BOTTOMS = (1, 2, 3, 6, 7, 12, OTHER, GREAT - 1)


def some_fractions():
    return sorted({as_told(Fraction(top, bottom)) for top in TOPS for bottom in BOTTOMS})


class TestWhole(unittest.TestCase):
    def test_an_int_that_is_no_truth(self):
        for thing in (0, 1, -1, 10 ** 30):
            self.assertIs(is_whole(thing), True)
        for thing in (True, False, None, "1", 1j, [1], (1,), {1: 1}, b"1", Odd()):
            self.assertIs(is_whole(thing), False)


class TestIsFraction(unittest.TestCase):
    def test_those_in_lowest_terms(self):
        for thing in ((0, 1), (1, 1), (-1, 1), (1, 2), (-1, 2), (3, 2), (-9, 4), (7, 1), (GREAT, 1), (1, GREAT),
                      (GREAT + 1, GREAT), (-GREAT - 1, GREAT), (2 ** 64 - 1, 2 ** 64)):
            with self.subTest(thing=thing):
                self.assertIs(is_fraction(thing), True)

    def test_those_not_in_lowest_terms(self):
        for thing in ((0, 2), (0, 5), (2, 2), (2, 4), (-2, 4), (6, 4), (-9, 3), (35, 49), (3 * 101, 5 * 101),
                      (GREAT, GREAT), (2 * GREAT, 2), (GREAT * 1000003, OTHER * 1000003)):
            with self.subTest(thing=thing):
                self.assertIs(is_fraction(thing), False)

    def test_bottoms_below_one(self):
        for thing in ((1, 0), (0, 0), (-1, 0), (1, -1), (0, -1), (1, -2), (-1, -2), (-3, -1)):
            with self.subTest(thing=thing):
                self.assertIs(is_fraction(thing), False)

    def test_things_of_other_kinds(self):
        for at, thing in enumerate(odd_things()):
            with self.subTest(at=at):
                self.assertIs(is_fraction(thing), False)

    def test_truths_are_no_numbers(self):
        for thing in ((True, 1), (1, True), (False, 1), (True, True), (True, 2), (3, True)):
            self.assertIs(is_fraction(thing), False)

    def test_lists_and_other_lengths(self):
        for thing in ([1, 2], (1,), (1, 2, 1), (), ((1, 2),), ((1, 2), (1, 2)), "12", {1: 2, 3: 4}):
            self.assertIs(is_fraction(thing), False)

    def test_what_is_asked_stays(self):
        for thing in ([1, [2]], ([1], {2: [3]}), {"a": [1]}, (1, [2, 3])):
            kept = deepcopy(thing)
            is_fraction(thing)
            self.assertEqual(thing, kept)


class TestFraction(unittest.TestCase):
    def test_made_of_two_whole_numbers(self):
        for top in TOPS:
            for bottom in BOTTOMS + tuple(-bottom for bottom in BOTTOMS):
                with self.subTest(top=top, bottom=bottom):
                    told = fraction(top, bottom)
                    self.assertEqual(told, as_told(Fraction(top, bottom)))
                    self.assertIs(is_fraction(told), True)

    def test_told_by_hand(self):
        self.assertEqual(fraction(6, 4), (3, 2))
        self.assertEqual(fraction(6, -4), (-3, 2))
        self.assertEqual(fraction(-6, -4), (3, 2))
        self.assertEqual(fraction(0, -7), (0, 1))
        self.assertEqual(fraction(-5, 5), (-1, 1))

    def test_a_bottom_of_nought_is_refused(self):
        for top in (-3, 0, 1, GREAT):
            with self.subTest(top=top), self.assertRaises(NoNumber):
                fraction(top, 0)

    def test_great_numbers_take_no_trying(self):
        first, second = 10 ** 19 + 51, 10 ** 19 + 57
        self.assertEqual(fraction(first * 6, second * 9), (first * 2, second * 3))


class TestReckoning(unittest.TestCase):
    def test_as_usual(self):
        told = some_fractions()
        for a in told:
            for b in told[::3] + [(0, 1), (1, 1), (-1, 1)]:
                one, other = as_number(a), as_number(b)
                self.assertEqual(plus(a, b), as_told(one + other))
                self.assertEqual(minus(a, b), as_told(one - other))
                self.assertEqual(times(a, b), as_told(one * other))
                self.assertIs(below(a, b), one < other)
                if other != 0:
                    self.assertEqual(over(a, b), as_told(one / other))

    def test_told_by_hand(self):
        self.assertEqual(plus((1, 2), (1, 3)), (5, 6))
        self.assertEqual(plus((1, 2), (-1, 2)), (0, 1))
        self.assertEqual(plus((1, 6), (1, 3)), (1, 2))
        self.assertEqual(minus((1, 2), (1, 3)), (1, 6))
        self.assertEqual(minus((1, 3), (1, 2)), (-1, 6))
        self.assertEqual(times((2, 3), (-3, 4)), (-1, 2))
        self.assertEqual(times((2, 3), (0, 1)), (0, 1))
        self.assertEqual(over((2, 3), (-4, 3)), (-1, 2))
        self.assertEqual(over((0, 1), (-4, 3)), (0, 1))
        self.assertEqual(over((-1, 2), (-1, 3)), (3, 2))

    def test_below(self):
        self.assertIs(below((1, 3), (1, 2)), True)
        self.assertIs(below((1, 2), (1, 3)), False)
        self.assertIs(below((1, 2), (1, 2)), False)
        self.assertIs(below((-1, 2), (-1, 3)), True)
        self.assertIs(below((-1, 2), (0, 1)), True)
        self.assertIs(below((0, 1), (0, 1)), False)
        self.assertIs(below((GREAT, GREAT + 1), (GREAT + 1, GREAT + 2)), True)
        self.assertIs(below((GREAT + 1, GREAT + 2), (GREAT, GREAT + 1)), False)

    def test_divided_by_nought_is_refused(self):
        for a in ((0, 1), (1, 1), (-7, 3), (GREAT, 1)):
            with self.subTest(a=a), self.assertRaises(NoNumber):
                over(a, (0, 1))

    def test_a_refusal_changes_nothing(self):
        before = over((1, 2), (1, 3))
        with self.assertRaises(NoNumber):
            over((1, 2), (0, 1))
        self.assertEqual(over((1, 2), (1, 3)), before)


if __name__ == "__main__":
    unittest.main()
