"""The least worth and the two outermost least cuts: [10], what [3] says of them, and [2]."""

import unittest

from cutstairs.cuts import is_cut, worth_of
from cutstairs.errors import NoPrice
from cutstairs.least import least_cut, least_worth, most_cut
from cutstairs.streams import led_from, led_to, stream_at, stream_worth
from cutstairs.webs import names_of
from samples import CHAIN, EVEN, FULL, KEPT, LONE, PLAIN, as_told, no_prices, plain_least, prices_of, thrown_webs

WEBS = KEPT + tuple(thrown_webs(9, 160))


class TestLeast(unittest.TestCase):
    def test_as_by_going_through_all_cuts(self):
        for web in WEBS:
            for price in prices_of(web):
                worth, low, high = plain_least(web, price)
                with self.subTest(web=web, price=price):
                    self.assertEqual(least_worth(web, price), as_told(worth))
                    self.assertEqual(least_cut(web, price), low)
                    self.assertEqual(most_cut(web, price), high)

    def test_several_least_ones_are_among_the_thrown(self):
        unlike = [web for web in WEBS if least_cut(web, (1, 1)) != most_cut(web, (1, 1))]
        self.assertGreater(len(unlike), 20)

    def test_told_by_hand(self):
        self.assertEqual(least_worth(PLAIN, (0, 1)), (2, 1))
        self.assertEqual(least_cut(PLAIN, (0, 1)), ())
        self.assertEqual(most_cut(PLAIN, (0, 1)), ())
        self.assertEqual(least_worth(PLAIN, (3, 1)), (9, 1))
        self.assertEqual(least_cut(PLAIN, (3, 1)), ("a", "b"))
        # The lines 2 + 5 L and 21 - 4 L meet at 19/9.
        self.assertEqual(least_worth(PLAIN, (19, 9)), (113, 9))
        self.assertEqual(least_cut(PLAIN, (19, 9)), ())
        self.assertEqual(most_cut(PLAIN, (19, 9)), ("a", "b"))

    def test_where_all_cuts_are_least(self):
        self.assertEqual(least_worth(EVEN, (1, 1)), (4, 1))
        self.assertEqual(least_cut(EVEN, (1, 1)), ())
        self.assertEqual(most_cut(EVEN, (1, 1)), ("a", "b"))
        for price in ((0, 1), (1, 2), (1, 1)):
            self.assertEqual(least_worth(LONE, price), (0, 1))
            self.assertEqual(least_cut(LONE, price), ())
            self.assertEqual(most_cut(LONE, price), ("x",))

    def test_along_a_chain(self):
        self.assertEqual(least_worth(CHAIN, (9, 1)), (108, 1))
        self.assertEqual(least_cut(CHAIN, (9, 1)), tuple("abcdefgh"))
        self.assertEqual(most_cut(CHAIN, (0, 1)), ())

    def test_their_kinds_and_worths(self):
        for web in WEBS[:40]:
            for price in prices_of(web):
                worth = least_worth(web, price)
                for cut in (least_cut(web, price), most_cut(web, price)):
                    self.assertIs(is_cut(web, cut), True)
                    self.assertEqual(worth_of(web, cut, price), worth)

    def test_by_a_greatest_stream(self):
        for web in WEBS[:40]:
            for price in prices_of(web):
                stream = stream_at(web, price)
                away = led_from(web, price, stream)
                self.assertEqual(stream_worth(stream), least_worth(web, price))
                self.assertEqual(led_to(web, price, stream), least_cut(web, price))
                self.assertEqual(tuple(name for name in names_of(web) if name not in away), most_cut(web, price))

    def test_what_is_no_price(self):
        for ask in (least_worth, least_cut, most_cut):
            for web in (PLAIN, LONE, FULL):
                for at, thing in enumerate(no_prices(web)):
                    with self.subTest(at=at), self.assertRaises(NoPrice):
                        ask(web, thing)

    def test_a_refusal_changes_nothing(self):
        before = (least_worth(PLAIN, (2, 1)), least_cut(PLAIN, (2, 1)), most_cut(PLAIN, (2, 1)))
        for ask in (least_worth, least_cut, most_cut):
            with self.assertRaises(NoPrice):
                ask(PLAIN, (4, 1))
        self.assertEqual((least_worth(PLAIN, (2, 1)), least_cut(PLAIN, (2, 1)), most_cut(PLAIN, (2, 1))), before)


if __name__ == "__main__":
    unittest.main()
