"""What is promised over the whole program: [1], [2], [3] and [12]."""

import unittest

from cutstairs.beside import beside
from cutstairs.coming import all_goes, comes_over, coming_order
from cutstairs.cuts import all_cuts, worth_of
from cutstairs.dense import densest, density_leans, thickest, thickness_leans
from cutstairs.desk import Desk
from cutstairs.houses import best_jobs, jobs_stair
from cutstairs.keepers import Keeper
from cutstairs.least import least_cut, least_worth, most_cut
from cutstairs.papers import paper_cuts, paper_goes, paper_least, paper_most, paper_stair, paper_worth
from cutstairs.pictures import tones_of
from cutstairs.risers import Riser
from cutstairs.shapes import cuts_at, many_cuts, shape_at
from cutstairs.sharing import levels_of, shares_of
from cutstairs.stairs import bits_at, stair_of, worth_by
from cutstairs.streams import stream_at, stream_worth
from graph_samples import TOUCHING
from house_samples import STEPS
from samples import KEPT, NINE_BITS, PLAIN, RING, STAIRED, as_number, sharing, small_webs, stair_prices, thrown_webs

WEBS = KEPT + STAIRED + tuple(thrown_webs(101, 30)) + tuple(small_webs(102, 30))
SHARING = sharing(RING)

# All questions that tell lists or tuples.
ASKED = (
    (all_cuts, RING), (stream_at, RING, (1, 2)), (least_cut, RING, (1, 2)), (most_cut, RING, (1, 2)),
    (shape_at, RING, (1, 1)), (cuts_at, PLAIN, (19, 9)), (stair_of, NINE_BITS), (bits_at, PLAIN, (19, 9)),
    (comes_over, PLAIN, "a"), (coming_order, NINE_BITS), (all_goes, PLAIN), (shares_of, SHARING), (levels_of, SHARING),
    (densest, TOUCHING), (thickest, TOUCHING), (density_leans, TOUCHING), (thickness_leans, TOUCHING),
    (beside, PLAIN, PLAIN), (best_jobs, STEPS, (5, 1)), (jobs_stair, STEPS), (tones_of, ("37", "52"), 1),
    (paper_worth, RING, (1, 2)), (paper_least, RING, (1, 2)), (paper_most, RING, (1, 2)), (paper_cuts, RING, (1, 2)),
    (paper_stair, NINE_BITS), (paper_goes, PLAIN),
)


def wreck(thing):
    """Empty all lists in a thing and put something else in."""
    if isinstance(thing, (list, tuple)):
        for part in thing:
            wreck(part)
    if isinstance(thing, list):
        thing.clear()
        thing.append("wrecked")


class TestFoundInEveryWay(unittest.TestCase):
    def test_the_same_answers(self):
        for web in WEBS:
            riser = Riser(web)
            for price in stair_prices(web):
                riser.rise(price)
                with self.subTest(web=web, price=price):
                    worths = {least_worth(web, price), worth_by(web, price), riser.worth(), stream_worth(riser.stream()),
                              worth_of(web, least_cut(web, price), price), worth_of(web, most_cut(web, price), price)}
                    self.assertEqual(len(worths), 1)
                    bits, breaks = stair_of(web)
                    beside_it = bits_at(web, price)
                    low, blocks, arrows = shape_at(web, price)
                    self.assertEqual(least_cut(web, price), low)
                    self.assertEqual(riser.cut(), low)
                    if price not in ((0, 1), (web[0], 1)):
                        self.assertEqual(bits[beside_it[0]][0], low)
                        self.assertEqual(bits[beside_it[-1]][1], most_cut(web, price))
                    cuts = cuts_at(web, price)
                    self.assertEqual(len(cuts), many_cuts(web, price))
                    self.assertEqual((min(cuts, key=len), max(cuts, key=len)), (low, most_cut(web, price)))

    def test_a_keeper_and_a_desk_tell_the_same(self):
        for web in WEBS[:40]:
            keeper, desk = Keeper(web[0]), Desk(web[0])
            for place in web[1]:
                keeper.put(place)
                desk.say(" ".join(["put", *[str(part) for part in place]]))
            for tie in web[2]:
                keeper.tie(*tie)
                desk.say(" ".join(["tie", *[str(part) for part in tie]]))
            self.assertEqual(keeper.web(), web)
            self.assertEqual(keeper.stair(), stair_of(web))
            self.assertEqual(desk.say("cuts 1"), str(many_cuts(web, (1, 1))))

    def test_one_within_another(self):
        for web in WEBS:
            prices = stair_prices(web)
            for ask in (least_cut, most_cut):
                cuts = [set(ask(web, price)) for price in prices]
                self.assertTrue(all(ahead <= behind for ahead, behind in zip(cuts, cuts[1:])))
            bits, breaks = stair_of(web)
            self.assertLessEqual(len(bits), len(web[1]) + 1)
            worths = [as_number(least_worth(web, price)) for price in prices]
            at = [as_number(price) for price in prices]
            steps = list(zip(at, worths))
            leans = [(other[1] - one[1]) / (other[0] - one[0]) for one, other in zip(steps, steps[1:])]
            self.assertEqual(leans, sorted(leans, reverse=True))


class TestNew(unittest.TestCase):
    def test_what_is_told_is_the_askers_own(self):
        for ask, *rest in ASKED:
            with self.subTest(ask=ask.__name__):
                kept = repr(ask(*rest))
                wreck(ask(*rest))
                self.assertEqual(repr(ask(*rest)), kept)

    def test_the_same_whatever_was_asked_ahead(self):
        first = [repr(ask(*rest)) for ask, *rest in ASKED]
        last = [repr(ask(*rest)) for ask, *rest in ASKED[::-1]]
        self.assertEqual(first, last[::-1])

    def test_what_is_handed_in_stays(self):
        before = repr(ASKED)
        for ask, *rest in ASKED:
            ask(*rest)
        self.assertEqual(repr(ASKED), before)


if __name__ == "__main__":
    unittest.main()
