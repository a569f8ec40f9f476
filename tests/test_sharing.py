"""The most level sharing: [17], what [3] says of it, and [2]."""

import unittest
from fractions import Fraction

from cutstairs.errors import NoShare
from cutstairs.fractions import is_fraction
from cutstairs.sharing import levels_of, shares_of
from cutstairs.streams import is_stream
from cutstairs.webs import is_web
from samples import (CHAIN, EVEN_PAIRS, EVEN_RING, EVEN_ROW, FULL, NINE_BITS, PLAIN, RING, as_number, plain_cuts,
                     plain_stair, small_webs, thrown_webs)


def sharing(web):
    """The web, changed so that it shares."""
    return (web[0], tuple((name, 0, max(1, b), c, 0) for name, a, b, c, d in web[1]), web[2])


# b is held back by its tie, then a and c share what is left of the 6.
HELD = (3, (("a", 0, 1, 0, 0), ("b", 0, 2, 0, 0), ("c", 0, 1, 6, 0)), (("a", "c", 9), ("b", "c", 1)))
# One that gets nothing, one that is full at TOP just so, one that has more than enough, two alike.
STEPS = (4, (("a", 0, 3, 12, 0), ("b", 0, 2, 0, 0), ("c", 0, 5, 99, 0), ("d", 0, 2, 3, 0), ("e", 0, 4, 6, 0)), ())
# Nothing goes out but by the last one.
FUNNEL = (9, (("a", 0, 1, 0, 0), ("b", 0, 2, 0, 0), ("c", 0, 3, 0, 0), ("d", 0, 4, 7, 0)),
          (("a", "b", 999), ("b", "c", 999), ("c", "d", 999)))

WEBS = (HELD, STEPS, FUNNEL, NINE_BITS, EVEN_ROW, EVEN_RING, EVEN_PAIRS, *[
    sharing(web) for web in (PLAIN, RING, CHAIN, FULL, *thrown_webs(19, 120), *small_webs(20, 60))])


def limits(web):
    """For each choice of places how much can go out of it, to the drain and by ties: they can have no more."""
    held = {}
    for cut in plain_cuts(web):
        held[cut] = sum(c for name, a, b, c, d in web[1] if name in cut)
        held[cut] += sum(size for one, other, size in web[2] if one in cut and other not in cut)
    return held


def plain_levels(web):
    """Each place's share by its B, by raising all that aren't held back together, again and again."""
    held = limits(web)
    by = {name: b for name, a, b, c, d in web[1]}
    levels = {}
    while len(levels) < len(by):
        free = [name for name in by if name not in levels]
        stops = {cut: Fraction(held[cut] - sum(levels[name] * by[name] for name in cut if name in levels),
                               sum(by[name] for name in cut if name in free))
                 for cut in held if any(name in free for name in cut)}
        level = min(min(stops.values()), Fraction(web[0]))
        tight = [cut for cut in stops if stops[cut] == level]
        for name in free:
            if level == web[0] or any(name in cut for cut in tight):
                levels[name] = level
    return levels


class TestShares(unittest.TestCase):
    def test_the_samples_are_webs(self):
        self.assertTrue(all(is_web(web) for web in WEBS))

    def test_by_when_places_come_over(self):
        for web in WEBS:
            bits, breaks = plain_stair(web)
            ends = [Fraction(0), *[as_number(at) for at in breaks], Fraction(web[0])]
            expected = [b * ends[len([bit for bit in bits if name not in bit[0]])] for name, a, b, c, d in web[1]]
            with self.subTest(web=web):
                self.assertEqual([as_number(share) for share in shares_of(web)], expected)

    def test_as_by_raising_all_together(self):
        for web in WEBS:
            levels = plain_levels(web)
            with self.subTest(web=web):
                self.assertEqual([as_number(share) for share in shares_of(web)],
                                 [levels[name] * b for name, a, b, c, d in web[1]])

    def test_they_can_go(self):
        for web in WEBS:
            shares = dict(zip([place[0] for place in web[1]], [as_number(share) for share in shares_of(web)]))
            for cut, most in limits(web).items():
                self.assertLessEqual(sum(shares[name] for name in cut), most)
            for name, a, b, c, d in web[1]:
                self.assertTrue(0 <= shares[name] <= b * web[0])

    def test_none_can_have_more_but_by_one_that_has_no_more(self):
        for web in WEBS:
            held = limits(web)
            by = {name: b for name, a, b, c, d in web[1]}
            shares = dict(zip(by, [as_number(share) for share in shares_of(web)]))
            for name in by:
                level = shares[name] / by[name]
                # All that have more may have nothing; where even so nothing is left, no other shares give more.
                kept = {other: shares[other] for other in by if shares[other] / by[other] <= level}
                left = [held[cut] - sum(kept.get(other, 0) for other in cut) for cut in held if name in cut]
                with self.subTest(web=web, name=name):
                    self.assertTrue(level == web[0] or min(left) == 0)

    def test_their_kind(self):
        for web in WEBS:
            told = shares_of(web)
            self.assertIs(type(told), tuple)
            self.assertEqual(len(told), len(web[1]))
            for share in told:
                self.assertIs(is_fraction(share), True)

    def test_told_by_hand(self):
        self.assertEqual(shares_of(HELD), ((5, 2), (1, 1), (5, 2)))
        self.assertEqual(shares_of(STEPS), ((12, 1), (0, 1), (20, 1), (3, 1), (6, 1)))
        self.assertEqual(shares_of(FUNNEL), ((7, 10), (7, 5), (21, 10), (14, 5)))
        self.assertEqual(shares_of(NINE_BITS), tuple((at, 1) for at in range(1, 9)))
        self.assertEqual(shares_of((1, (("x", 0, 7, 0, 0),), ())), ((0, 1),))
        self.assertEqual(shares_of((1, (("x", 0, 7, 3, 0),), ())), ((3, 1),))
        self.assertEqual(shares_of((1, (("x", 0, 7, 9, 0),), ())), ((7, 1),))

    def test_a_stream_goes_in_by_them(self):
        self.assertIs(is_stream(HELD, (3, 1), (shares_of(HELD), ((5, 2), (1, 1)), ((0, 1), (0, 1), (6, 1)))), True)
        self.assertIs(is_stream(STEPS, (4, 1), (shares_of(STEPS), (), shares_of(STEPS))), True)
        through = ((7, 10), (21, 10), (21, 5))
        self.assertIs(is_stream(FUNNEL, (9, 1), (shares_of(FUNNEL), through, ((0, 1), (0, 1), (0, 1), (7, 1)))), True)


class TestLevels(unittest.TestCase):
    def test_as_by_raising_all_together(self):
        for web in WEBS:
            levels = plain_levels(web)
            expected = [(level, tuple(name for name in levels if levels[name] == level))
                        for level in sorted(set(levels.values()))]
            told = levels_of(web)
            with self.subTest(web=web):
                self.assertEqual([(as_number(level), tuple(sorted(names))) for level, names in told],
                                 [(level, tuple(sorted(names))) for level, names in expected])
                self.assertEqual([names for level, names in told], [tuple(sorted(names)) for level, names in told])

    def test_their_kind(self):
        for web in WEBS:
            told = levels_of(web)
            self.assertIs(type(told), list)
            self.assertEqual(sorted(name for level, names in told for name in names), [place[0] for place in web[1]])
            for row in told:
                self.assertIs(type(row), tuple)
                self.assertIs(is_fraction(row[0]), True)
                self.assertIs(type(row[1]), tuple)

    def test_told_by_hand(self):
        self.assertEqual(levels_of(HELD), [((1, 2), ("b",)), ((5, 2), ("a", "c"))])
        self.assertEqual(levels_of(STEPS), [((0, 1), ("b",)), ((3, 2), ("d", "e")), ((4, 1), ("a", "c"))])
        self.assertEqual(levels_of(FUNNEL), [((7, 10), ("a", "b", "c", "d"))])
        self.assertEqual(levels_of((1, (("x", 0, 7, 0, 0),), ())), [((0, 1), ("x",))])

    def test_several_levels_are_among_the_thrown(self):
        self.assertGreater(len([web for web in WEBS if len(levels_of(web)) > 2]), 20)

    def test_a_told_list_that_was_changed(self):
        before = tuple(levels_of(STEPS))
        told = levels_of(STEPS)
        told.reverse()
        told[0] = None
        told.append("changed")
        self.assertEqual(tuple(levels_of(STEPS)), before)
        self.assertEqual(shares_of(STEPS), ((12, 1), (0, 1), (20, 1), (3, 1), (6, 1)))


class TestRefusals(unittest.TestCase):
    def no_sharers(self):
        """Webs of which one number at one place keeps them from sharing."""
        for web in (HELD, STEPS, FUNNEL, NINE_BITS):
            for at in range(len(web[1])):
                name, a, b, c, d = web[1][at]
                for place in ((name, 1, b, c, d), (name, 99, b, c, d), (name, a, 0, c, d), (name, a, b, 99, 1)):
                    yield (web[0], (*web[1][:at], place, *web[1][at + 1:]), web[2])

    def test_one_number_at_one_place(self):
        for web in self.no_sharers():
            self.assertIs(is_web(web), True)
            for ask in (shares_of, levels_of):
                with self.subTest(web=web), self.assertRaises(NoShare):
                    ask(web)

    def test_one_place(self):
        for numbers in ((1, 1, 9, 0), (0, 0, 9, 0), (0, 1, 9, 1), (0, 0, 0, 0), (5, 0, 9, 2)):
            for ask in (shares_of, levels_of):
                with self.assertRaises(NoShare):
                    ask((2, (("x", *numbers),), ()))

    def test_a_refusal_changes_nothing(self):
        before = (shares_of(HELD), levels_of(HELD))
        for web in self.no_sharers():
            with self.assertRaises(NoShare):
                shares_of(web)
        self.assertEqual((shares_of(HELD), levels_of(HELD)), before)


if __name__ == "__main__":
    unittest.main()
