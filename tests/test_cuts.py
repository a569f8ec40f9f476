"""Cuts, their lines and worths: [7], and [2] of them."""

import unittest
from itertools import permutations

from cutstairs.cuts import all_cuts, is_cut, line_of, worth_of
from cutstairs.errors import NoCut, NoPrice
from cutstairs.fractions import is_fraction, plus, times
from samples import (EVEN, FULL, KEPT, PLAIN, RING, Odd, as_told, no_prices, odd_things, plain_cuts, plain_worth,
                     prices_of, thrown_webs)


def no_cuts():
    """Things of many kinds that are no cut of PLAIN nor of RING."""
    return odd_things() + [
        ("a", "a"), ("b", "a"), ("z",), ("a", "z"), ("a", "b", "b"), ("b", "b"), ("a", "b", "a"), ["a"], ["a", "b"], [],
        {}, "ab", "a", ("ab",), ("A",), (0,), (True,), (None,), ("a", None), (b"a",), (("a",), "b"), ("a", ["b"]),
        ("a", Odd()), {"a": True}, {"a"}, None]


class TestIsCut(unittest.TestCase):
    def test_none_some_and_all(self):
        for cut in ((), ("a",), ("b",), ("a", "b")):
            self.assertIs(is_cut(PLAIN, cut), True)

    def test_every_choice_and_every_turn_of_it(self):
        for many in range(5):
            for thing in permutations(("a", "b", "c", "d"), many):
                told = list(thing) == sorted(thing) and "d" not in thing
                self.assertIs(is_cut(RING, thing), told, thing)

    def test_things_of_any_kind(self):
        for web in (PLAIN, RING):
            for at, thing in enumerate(no_cuts()):
                with self.subTest(at=at):
                    self.assertIs(is_cut(web, thing), False)

    def test_of_another_web(self):
        self.assertIs(is_cut(FULL, ("a", "bb")), True)
        self.assertIs(is_cut(PLAIN, ("a", "bb")), False)


class TestLine(unittest.TestCase):
    def test_told_by_hand(self):
        self.assertEqual(line_of(PLAIN, ()), (2, 5))
        self.assertEqual(line_of(PLAIN, ("a",)), (14, 1))
        self.assertEqual(line_of(PLAIN, ("b",)), (14, 0))
        self.assertEqual(line_of(PLAIN, ("a", "b")), (21, -4))
        self.assertEqual(line_of(RING, ("b",)), (30 + 7 + 40 + 4 + 6, 9))
        self.assertEqual(line_of(RING, ("a", "c")), (0 + 20 + 9 + 11, 2 - 5 - 1))

    def test_two_whole_numbers(self):
        for web in KEPT + tuple(thrown_webs(5, 30)):
            for cut in plain_cuts(web):
                told = line_of(web, cut)
                self.assertIsInstance(told, tuple)
                self.assertEqual([int, int], [type(part) for part in told])
                self.assertEqual(as_told(told[0]), as_told(plain_worth(web, cut, (0, 1))))
                self.assertEqual(as_told(told[0] + told[1]), as_told(plain_worth(web, cut, (1, 1))))

    def test_what_is_no_cut(self):
        for at, thing in enumerate(no_cuts()):
            with self.subTest(at=at), self.assertRaises(NoCut):
                line_of(PLAIN, thing)


class TestWorth(unittest.TestCase):
    def test_told_by_hand(self):
        self.assertEqual(worth_of(PLAIN, (), (0, 1)), (2, 1))
        self.assertEqual(worth_of(PLAIN, (), (3, 1)), (17, 1))
        self.assertEqual(worth_of(PLAIN, (), (1, 2)), (9, 2))
        self.assertEqual(worth_of(PLAIN, ("a",), (1, 2)), (29, 2))
        self.assertEqual(worth_of(PLAIN, ("b",), (2, 3)), (14, 1))
        self.assertEqual(worth_of(PLAIN, ("a", "b"), (3, 1)), (9, 1))

    def test_what_all_ties_to_the_other_side_hold(self):
        for web in KEPT + tuple(thrown_webs(6, 40)):
            for price in prices_of(web):
                for cut in plain_cuts(web)[::3]:
                    told = worth_of(web, cut, price)
                    self.assertEqual(told, as_told(plain_worth(web, cut, price)))
                    base, lean = line_of(web, cut)
                    self.assertEqual(told, plus((base, 1), times((lean, 1), price)))
                    self.assertIs(is_fraction(told), True)

    def test_what_is_no_cut(self):
        for at, thing in enumerate(no_cuts()):
            with self.subTest(at=at), self.assertRaises(NoCut):
                worth_of(PLAIN, thing, (1, 2))

    def test_what_is_no_price(self):
        for at, thing in enumerate(no_prices(PLAIN)):
            for cut in ((), ("a", "b")):
                with self.subTest(at=at), self.assertRaises(NoPrice):
                    worth_of(PLAIN, cut, thing)

    def test_where_both_are_amiss_the_cut_is_told(self):
        for thing in (("z",), ["a"], None, ("b", "a"), Odd()):
            for price in no_prices(PLAIN):
                with self.assertRaises(NoCut):
                    worth_of(PLAIN, thing, price)


class TestAllCuts(unittest.TestCase):
    def test_told_by_hand(self):
        self.assertEqual(all_cuts(PLAIN), [(), ("a",), ("a", "b"), ("b",)])
        self.assertEqual(all_cuts(RING), [(), ("a",), ("a", "b"), ("a", "b", "c"), ("a", "c"),
                                          ("b",), ("b", "c"), ("c",)])

    def test_a_rising_list_of_all(self):
        for web in KEPT + tuple(thrown_webs(7, 20)):
            told = all_cuts(web)
            self.assertIsInstance(told, list)
            self.assertEqual(told, plain_cuts(web))
            self.assertEqual(len(told), 2 ** len(web[1]))
            for cut in told:
                self.assertIs(is_cut(web, cut), True)

    def test_new_each_time(self):
        first = all_cuts(EVEN)
        first.append("more")
        first[0] = None
        second = all_cuts(EVEN)
        self.assertEqual(second, plain_cuts(EVEN))
        second.clear()
        self.assertEqual(all_cuts(EVEN), plain_cuts(EVEN))
        self.assertIsNone(first[0])


if __name__ == "__main__":
    unittest.main()
