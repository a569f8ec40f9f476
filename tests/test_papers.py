"""The house's papers: [26], and what [3] and [2] say of them."""

import unittest

from cutstairs.checker import holds
from cutstairs.coming import all_goes
from cutstairs.dense import densest, thickest
from cutstairs.errors import NoPart, NoPrice, NoShare
from cutstairs.fractions import is_fraction
from cutstairs.papers import (paper_cuts, paper_densest, paper_earns, paper_goes, paper_least, paper_most, paper_shares,
                              paper_stair, paper_thickest, paper_worth)
from cutstairs.sharing import shares_of
from graph_samples import KEPT_GRAPHS, ONE, graphs_of_four, thrown_graphs
from house_samples import FULL_HOUSE, JOB_ALONE, KEPT_HOUSES, SHARED, plain_best, thrown_houses
from plain_checker import plain_holds
from samples import (EVEN, FULL, KEPT, LONE, PLAIN, RING, STAIRED, as_number, as_told, least_by, no_prices, plain_least,
                     plain_lines, plain_stair, prices_of, sharing, small_webs, stair_prices, thrown_webs)

WEBS = KEPT + STAIRED + tuple(thrown_webs(81, 50)) + tuple(small_webs(82, 50))
GRAPHS = (*KEPT_GRAPHS, *thrown_graphs(83, 40))
HOUSES = (*KEPT_HOUSES, *thrown_houses(84, 60))


def kinds(thing):
    """The kinds of all things within a thing."""
    if isinstance(thing, tuple):
        return {tuple}.union(*[kinds(part) for part in thing])
    return {thing.__class__}


class TestPapers(unittest.TestCase):
    def check(self, told, claim):
        """That a claim and its paper are told, the claim is this one, and the checker takes it."""
        with self.subTest(claim=claim):
            self.assertIsInstance(told, tuple)
            self.assertEqual(len(told), 2)
            self.assertEqual(told[0], claim)
            self.assertLessEqual(kinds(told), {tuple, str, int, type(None)})
            self.assertIs(holds(told[0], told[1]), True)
            self.assertIs(plain_holds(told[0], told[1]), True)

    def test_of_a_price(self):
        for web in WEBS:
            lines = plain_lines(web)
            for price in [*prices_of(web)[:4], *stair_prices(web)[2:12:3]]:
                worth, low, high = plain_least(web, price)
                self.check(paper_worth(web, price), ("worth", web, price, as_told(worth)))
                self.check(paper_least(web, price), ("least", web, price, low))
                self.check(paper_most(web, price), ("most", web, price, high))
                self.check(paper_cuts(web, price), ("cuts", web, price, len(least_by(lines, price))))

    def test_of_the_stair(self):
        for web in WEBS:
            bits, breaks = plain_stair(web)
            self.check(paper_stair(web), ("stair", web, tuple(bits), tuple(breaks)))

    def test_until_when_all_goes(self):
        words = set()
        for web in (*WEBS, *[sharing(web) for web in WEBS]):
            told = all_goes(web)
            words.add(told[0])
            claim = ("never", web) if told == ("never",) else ("until", web, told[1])
            self.check(paper_goes(web), claim)
        self.assertEqual(words, {"until", "never"})

    def test_until_0_and_until_top(self):
        self.check(paper_goes(LONE), ("until", LONE, (1, 1)))
        self.assertIsNone(paper_goes(LONE)[1][1])
        # At 0 as dear as (): one cut of lesser LEAN and one, greater, of none lesser.
        for web in ((2, (("a", 1, 1, 1, 0), ("b", 3, 0, 3, 0)), ()), (2, (("a", 1, 1, 1, 0), ("b", 3, 1, 3, 1)), ()),
                    (2, (("a", 1, 0, 1, 0), ("b", 3, 1, 3, 1), ("c", 0, 0, 0, 0)), (("a", "c", 9),))):
            self.check(paper_goes(web), ("until", web, (0, 1)))

    def test_of_shares(self):
        for web in WEBS:
            web = sharing(web)
            self.check(paper_shares(web), ("shares", web, shares_of(web)))

    def test_of_graphs(self):
        for thing in (*GRAPHS, *graphs_of_four()):
            self.check(paper_densest(thing), ("densest", thing, densest(thing)[0]))
            if len(thing[0]) > 1:
                self.check(paper_thickest(thing), ("thickest", thing, thickest(thing)[0]))

    def test_of_houses(self):
        for house in HOUSES:
            for price in prices_of(house):
                most = as_told(plain_best(house, as_number(price))[0])
                self.check(paper_earns(house, price), ("earns", house, price, most))

    def test_told_by_hand(self):
        self.assertEqual(paper_worth(PLAIN, (19, 9))[0], ("worth", PLAIN, (19, 9), (113, 9)))
        self.assertEqual(paper_cuts(EVEN, (1, 1))[0], ("cuts", EVEN, (1, 1), 4))
        self.assertEqual(paper_stair(PLAIN)[0], ("stair", PLAIN, (((), (), 2, 5), (("a", "b"), ("a", "b"), 21, -4)),
                                                 ((19, 9),)))
        self.assertEqual(paper_goes(PLAIN)[0], ("until", PLAIN, (19, 9)))
        self.assertEqual(paper_earns(SHARED, (4, 3))[0], ("earns", SHARED, (4, 3), (1, 1)))
        self.assertEqual(paper_densest(ONE), (("densest", ONE, (0, 1)), (("a",), ())))

    def test_papers_of_a_stair_are_as_many_as_it_needs(self):
        for web in WEBS[:30]:
            (word, same, bits, breaks), (ends, middles) = paper_stair(web)
            self.assertEqual((len(ends), len(middles)), (len(breaks) + 2, len(bits)))
            self.assertTrue(all(is_fraction(part) for stream in ends + middles for row in stream for part in row))


class TestRefusals(unittest.TestCase):
    def test_what_is_no_price(self):
        for ask in (paper_worth, paper_least, paper_most, paper_cuts):
            for web in (PLAIN, LONE, FULL):
                for at, price in enumerate(no_prices(web)):
                    with self.subTest(at=at), self.assertRaises(NoPrice):
                        ask(web, price)
        for house in (SHARED, JOB_ALONE, FULL_HOUSE):
            for at, price in enumerate(no_prices(house)):
                with self.subTest(at=at), self.assertRaises(NoPrice):
                    paper_earns(house, price)

    def test_webs_that_do_not_share(self):
        for web in (PLAIN, RING, LONE, FULL, (2, (("a", 0, 1, 9, 0), ("b", 1, 1, 9, 0)), ()),
                    (2, (("a", 0, 1, 9, 0), ("b", 0, 0, 9, 0)), ()), (2, (("a", 0, 1, 9, 0), ("b", 0, 1, 9, 1)), ())):
            with self.assertRaises(NoShare):
                paper_shares(web)

    def test_graphs_of_one_name(self):
        for name in ("a", "zzzzzzzz"):
            with self.assertRaises(NoPart):
                paper_thickest(((name,), ()))


if __name__ == "__main__":
    unittest.main()
