"""When each place comes over, and until when all goes: [14], [15], and [2] of them."""

import unittest
from fractions import Fraction

from cutstairs.coming import all_goes, comes_over, coming_order
from cutstairs.errors import NoName
from cutstairs.streams import stream_at
from cutstairs.webs import sizes_at
from samples import (EVEN, FULL, KEPT, LONE, MIXED, NINE_BITS, PLAIN, RING, STAIRED, as_number, as_told, least_by,
                     odd_things, plain_lines, plain_stair, small_webs, thrown_webs)

WEBS = KEPT + STAIRED + tuple(thrown_webs(15, 120)) + tuple(small_webs(16, 60))


def plain_whens(web):
    """When each place comes over, by the least cuts half-way of each stretch."""
    lines = plain_lines(web)
    breaks = plain_stair(web)[1]
    ends = [Fraction(0), *[as_number(at) for at in breaks], Fraction(web[0])]
    halves = [as_told((one + other) / 2) for one, other in zip(ends, ends[1:])]
    least = [least_by(lines, half) for half in halves]
    whens = {}
    for place in web[1]:
        has = [all(place[0] in cut for cut in cuts) for cuts in least]
        if all(has):
            whens[place[0]] = ("always",)
        elif any(has):
            whens[place[0]] = ("at", breaks[has.index(True) - 1])
        else:
            whens[place[0]] = ("never",)
    return whens


def plain_goes(web):
    """Until when no cut is worth less than (), cut by cut."""
    lines = plain_lines(web)
    base, lean = lines[()]
    until = Fraction(web[0])
    for other_base, other_lean in lines.values():
        if other_lean < lean:
            until = min(until, Fraction(other_base - base, lean - other_lean))
        elif other_base < base:
            return ("never",)
    return ("until", as_told(until)) if until >= 0 else ("never",)


def no_names(web):
    """Things of many kinds that name no place of the web."""
    names = [place[0] for place in web[1]]
    things = odd_things() + ["nobody", "spring ", "<spring>", "<drain>", "drains", "A", "X", *[(name,) for name in names]]
    things += [[name] for name in names] + [name.encode() for name in names] + [name + " " for name in names]
    things += [names, tuple(names), {name: name for name in names}, set(names)]
    return [thing for thing in things if not (isinstance(thing, str) and thing in names)]


def rank(when):
    """A key by which the order of the told rises."""
    if when == ("always",):
        return (0, Fraction(0))
    if when == ("never",):
        return (2, Fraction(0))
    return (1, as_number(when[1]))


def goes_at(web, price):
    """Whether a greatest stream fills each tie from the spring."""
    return stream_at(web, price)[0] == sizes_at(web, price)[0]


class TestComesOver(unittest.TestCase):
    def test_as_by_the_least_cuts(self):
        for web in WEBS:
            for name, when in plain_whens(web).items():
                with self.subTest(web=web, name=name):
                    told = comes_over(web, name)
                    self.assertEqual(told, when)
                    self.assertIs(type(told), tuple)

    def test_told_by_hand(self):
        self.assertEqual(comes_over(PLAIN, "a"), ("at", (19, 9)))
        self.assertEqual(comes_over(PLAIN, "b"), ("at", (19, 9)))
        self.assertEqual(comes_over(LONE, "x"), ("never",))
        self.assertEqual([comes_over(MIXED, name) for name in "abcdefg"],
                         [("never",), ("at", (2, 1)), ("always",), ("at", (2, 1)), ("at", (1, 1)), ("always",),
                          ("never",)])
        self.assertEqual([comes_over(NINE_BITS, name) for name in "abcdefgh"], [("at", (at, 1)) for at in range(1, 9)])

    def test_at_the_very_ends_it_does_not_count(self):
        # It would come over at 0 or at TOP alone.
        web = (3, (("a", 0, 1, 0, 0), ("b", 0, 1, 3, 0)), ())
        self.assertEqual(comes_over(web, "a"), ("always",))
        self.assertEqual(comes_over(web, "b"), ("never",))

    def test_what_names_no_place(self):
        for web in (PLAIN, LONE, RING, FULL):
            for at, thing in enumerate(no_names(web)):
                with self.subTest(at=at), self.assertRaises(NoName):
                    comes_over(web, thing)
            for thing in ("nobody", None, ["a"], "", 0):
                with self.assertRaises(NoName):
                    comes_over(web, thing)

    def test_a_refusal_changes_nothing(self):
        before = comes_over(MIXED, "b")
        with self.assertRaises(NoName):
            comes_over(MIXED, "h")
        self.assertEqual(comes_over(MIXED, "b"), before)


class TestOrder(unittest.TestCase):
    def test_as_place_by_place(self):
        for web in WEBS:
            told = coming_order(web)
            rows = [(when, name) for name, when in plain_whens(web).items()]
            self.assertIs(type(told), list)
            self.assertTrue(all(type(row) is tuple for row in told))
            self.assertEqual(told, sorted(rows, key=lambda row: (rank(row[0]), row[1])))

    def test_told_by_hand(self):
        self.assertEqual(coming_order(MIXED), [
            (("always",), "c"), (("always",), "f"), (("at", (1, 1)), "e"), (("at", (2, 1)), "b"), (("at", (2, 1)), "d"),
            (("never",), "a"), (("never",), "g")])
        self.assertEqual(coming_order(RING), [(("at", (1, 14)), "a"), (("at", (2, 1)), "c"), (("never",), "b")])
        self.assertEqual(coming_order(LONE), [(("never",), "x")])

    def test_by_the_worth_of_breaks_and_not_as_tuples(self):
        # 1/3 is less than 1/2, and 2 is more than 3/2.
        web = (3, (("a", 0, 2, 1, 0), ("b", 0, 3, 1, 0), ("c", 0, 1, 2, 0), ("d", 0, 2, 3, 0)), ())
        self.assertEqual(coming_order(web), [(("at", (1, 3)), "b"), (("at", (1, 2)), "a"), (("at", (3, 2)), "d"),
                                             (("at", (2, 1)), "c")])

    def test_a_told_list_that_was_changed(self):
        before = tuple(coming_order(MIXED))
        told = coming_order(MIXED)
        told.reverse()
        told.pop()
        told[0] = None
        self.assertEqual(tuple(coming_order(MIXED)), before)
        self.assertEqual(comes_over(MIXED, "a"), ("never",))


class TestAllGoes(unittest.TestCase):
    def test_as_by_the_lines_of_all_cuts(self):
        for web in WEBS:
            with self.subTest(web=web):
                told = all_goes(web)
                self.assertEqual(told, plain_goes(web))
                self.assertIs(type(told), tuple)

    def test_as_by_streams(self):
        near = Fraction(1, 10 ** 9)
        for web in WEBS:
            told = all_goes(web)
            if told == ("never",):
                self.assertFalse(goes_at(web, (0, 1)))
                continue
            until = as_number(told[1])
            for by in (0, Fraction(1, 2), 1):
                self.assertTrue(goes_at(web, as_told(until * by)))
            if until < web[0]:
                self.assertFalse(goes_at(web, as_told(until + near)))
                self.assertFalse(goes_at(web, (web[0], 1)))

    def test_told_by_hand(self):
        self.assertEqual(all_goes(PLAIN), ("until", (19, 9)))
        self.assertEqual(all_goes(EVEN), ("until", (1, 1)))
        self.assertEqual(all_goes(LONE), ("until", (1, 1)))
        self.assertEqual(all_goes(MIXED), ("never",))

    def test_until_0_until_top_never(self):
        self.assertEqual(all_goes((3, (("a", 2, 1, 2, 0),), ())), ("until", (0, 1)))
        self.assertEqual(all_goes((3, (("a", 0, 1, 0, 0), ("b", 0, 0, 9, 0)), ())), ("until", (0, 1)))
        self.assertEqual(all_goes((3, (("a", 2, 1, 5, 0),), ())), ("until", (3, 1)))
        self.assertEqual(all_goes((3, (("a", 2, 1, 6, 0),), ())), ("until", (3, 1)))
        self.assertEqual(all_goes((3, (("a", 2, 1, 9, 2),), ())), ("until", (7, 3)))
        self.assertEqual(all_goes((3, (("a", 2, 0, 1, 0),), ())), ("never",))
        self.assertEqual(all_goes((3, (("a", 2, 1, 1, 0),), ())), ("never",))

    def test_all_kinds_are_among_the_thrown(self):
        told = [all_goes(web) for web in WEBS]
        self.assertGreater(told.count(("never",)), 10)
        self.assertGreater(told.count(("until", (0, 1))), 3)
        self.assertGreater(len([web for web in WEBS if all_goes(web) == ("until", (web[0], 1))]), 3)


if __name__ == "__main__":
    unittest.main()
