"""A price that rises: [16], what [3] says of it, and [2]."""

import unittest
from fractions import Fraction

from cutstairs.errors import NoFall, NoPrice
from cutstairs.least import least_cut, least_worth
from cutstairs.risers import Riser
from cutstairs.streams import is_stream, stream_at, stream_worth
from samples import (CHAIN, FULL, KEPT, LONE, NINE_BITS, PLAIN, RING, STAIRED, as_told, no_prices, plain_least,
                     small_webs, stair_prices, thrown_webs)

WEBS = KEPT + STAIRED + tuple(thrown_webs(17, 60)) + tuple(small_webs(18, 30))


def told(riser):
    """All that a riser tells."""
    return (riser.price(), riser.worth(), riser.cut(), riser.stream())


class TestRiser(unittest.TestCase):
    def check(self, web, riser, price):
        """That the riser tells what is told of the web at the price."""
        self.assertEqual(riser.price(), price)
        self.assertEqual(riser.worth(), least_worth(web, price))
        self.assertEqual(riser.cut(), least_cut(web, price))
        self.assertIs(is_stream(web, price, riser.stream()), True)
        self.assertEqual(stream_worth(riser.stream()), least_worth(web, price))
        self.assertEqual(riser.stream(), stream_at(web, price))

    def test_at_first_0(self):
        for web in WEBS:
            self.check(web, Riser(web), (0, 1))

    def test_step_by_step(self):
        for web in WEBS:
            riser = Riser(web)
            for price in stair_prices(web):
                with self.subTest(web=web, price=price):
                    self.assertIsNone(riser.rise(price))
                    self.check(web, riser, price)

    def test_by_leaps(self):
        for web in WEBS:
            for prices in (stair_prices(web)[1::3], stair_prices(web)[2::4], [(web[0], 1)]):
                riser = Riser(web)
                for price in prices:
                    riser.rise(price)
                self.check(web, riser, prices[-1])

    def test_as_by_going_through_all_cuts(self):
        for web in (PLAIN, RING, NINE_BITS, CHAIN, *WEBS[-12:]):
            riser = Riser(web)
            for price in stair_prices(web):
                riser.rise(price)
                worth, low, high = plain_least(web, price)
                self.assertEqual(riser.worth(), as_told(worth))
                self.assertEqual(riser.cut(), low)

    def test_to_the_same_price(self):
        for web in WEBS:
            riser = Riser(web)
            riser.rise((0, 1))
            self.check(web, riser, (0, 1))
            for price in (stair_prices(web)[1], (web[0], 1)):
                riser.rise(price)
                before = told(riser)
                self.assertIsNone(riser.rise(price))
                self.assertEqual(told(riser), before)

    def test_told_by_hand(self):
        riser = Riser(PLAIN)
        self.assertEqual((riser.price(), riser.worth(), riser.cut()), ((0, 1), (2, 1), ()))
        riser.rise((2, 1))
        self.assertEqual((riser.price(), riser.worth(), riser.cut()), ((2, 1), (12, 1), ()))
        riser.rise((19, 9))
        self.assertEqual((riser.price(), riser.worth(), riser.cut()), ((19, 9), (113, 9), ()))
        riser.rise((3, 1))
        self.assertEqual((riser.price(), riser.worth(), riser.cut()), ((3, 1), (9, 1), ("a", "b")))


class TestRefusals(unittest.TestCase):
    def test_what_is_no_price(self):
        for web in (PLAIN, LONE, FULL):
            riser = Riser(web)
            for start in ((0, 1), (1, 2), (web[0], 1)):
                riser.rise(start)
                before = told(riser)
                for at, thing in enumerate(no_prices(web)):
                    with self.subTest(at=at):
                        with self.assertRaises(NoPrice):
                            riser.rise(thing)
                        self.assertEqual(riser.price(), start)
                self.assertEqual(told(riser), before)

    def test_what_is_less(self):
        riser = Riser(PLAIN)
        riser.rise((19, 9))
        before = told(riser)
        for price in ((0, 1), (1, 1), (2, 1), (21, 10), as_told(Fraction(19, 9) - Fraction(1, 10 ** 9))):
            with self.assertRaises(NoFall):
                riser.rise(price)
            self.assertEqual(told(riser), before)
        riser.rise((20, 9))
        self.assertEqual(told(riser), ((20, 9), (109, 9), ("a", "b"), stream_at(PLAIN, (20, 9))))

    def test_no_price_goes_ahead_of_no_fall(self):
        riser = Riser(PLAIN)
        riser.rise((3, 1))
        for thing in ((-1, 1), (2, 2), (4, 2), [0, 1], None):
            with self.assertRaises(NoPrice):
                riser.rise(thing)

    def test_after_a_refusal_it_goes_on(self):
        for web in WEBS[:30]:
            riser = Riser(web)
            for price in stair_prices(web):
                for thing in ((web[0] + 1, 1), None, (-1, 2)):
                    with self.assertRaises(NoPrice):
                        riser.rise(thing)
                riser.rise(price)
                if price != (0, 1):
                    with self.assertRaises(NoFall):
                        riser.rise((0, 1))
                self.assertEqual(told(riser), (price, least_worth(web, price), least_cut(web, price),
                                               stream_at(web, price)))


class TestApart(unittest.TestCase):
    def test_two_risers_of_one_web(self):
        for web in (PLAIN, RING, NINE_BITS, FULL):
            one = Riser(web)
            other = Riser(web)
            one.rise((1, 1))
            at_start = told(Riser(web))
            self.assertEqual(told(other), at_start)
            other.rise((web[0], 1))
            self.assertEqual(one.price(), (1, 1))
            self.assertEqual(one.stream(), stream_at(web, (1, 1)))
            with self.assertRaises(NoFall):
                other.rise((1, 1))
            one.rise((1, 1))
            self.assertEqual(one.cut(), least_cut(web, (1, 1)))
            self.assertEqual(told(Riser(web)), at_start)

    def test_two_risers_of_two_webs(self):
        one = Riser(PLAIN)
        other = Riser(RING)
        other.rise((4, 1))
        one.rise((2, 1))
        self.assertEqual(told(one), ((2, 1), (12, 1), (), stream_at(PLAIN, (2, 1))))
        with self.assertRaises(NoPrice):
            one.rise((4, 1))
        self.assertEqual(other.price(), (4, 1))


if __name__ == "__main__":
    unittest.main()
