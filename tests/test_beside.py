"""Two webs beside each other: [21], and [2] of it."""

import unittest
from fractions import Fraction

from cutstairs.beside import beside
from cutstairs.errors import NoTop
from cutstairs.fractions import is_fraction
from samples import (EVEN, FULL, KEPT, LONE, NINE_BITS, PLAIN, RING, STAIRED, as_number, as_told, plain_lines,
                     plain_stair, small_webs, thrown_webs)

MIRRORED = {"less": "more", "same": "same", "more": "less"}


def lone(top, *rows):
    """A web without ties of places with these A, B, C, D each: its least worth is the least of both, place by place."""
    return (top, tuple((name, *row) for name, row in zip("abcdefgh", rows)), ())


def one_more(web):
    """The web with one number a little greater, in many ways."""
    top, places, ties = web
    for at, place in enumerate(places):
        for field, most in ((1, 99), (2, 99), (3, 999)):
            if place[field] < most:
                row = (*place[:field], place[field] + 1, *place[field + 1:])
                yield (top, (*places[:at], row, *places[at + 1:]), ties)
    for at, (one, other, size) in enumerate(ties):
        yield (top, places, (*ties[:at], (one, other, min(999, size + 1)), *ties[at + 1:]))


def pairs_of_one_top(webs):
    """Each web with the two behind it that have its TOP."""
    for top in range(1, 10):
        alike = [web for web in webs if web[0] == top]
        for at, web in enumerate(alike):
            for other in alike[at + 1:at + 3]:
                yield web, other


def word_by(lines, others, at):
    """What the least of the lines is to the least of the others at a price."""
    one = min(base + lean * at for base, lean in lines)
    other = min(base + lean * at for base, lean in others)
    return "less" if one < other else "more" if one > other else "same"


class TestBeside(unittest.TestCase):
    def check(self, web, other):
        """That what is told is so at all prices, and parts only where it must.

        Between bends both worths are straight: where neither end is of the contrary word and the middle is of the
        word, all prices between are.
        """
        told = beside(web, other)
        lines, others = set(plain_lines(web).values()), set(plain_lines(other).values())
        bends = [as_number(at) for at in plain_stair(web)[1] + plain_stair(other)[1]]
        self.assertEqual((told[0][0], told[-1][1]), ((0, 1), (web[0], 1)))
        for start, end, word in told:
            low, high = as_number(start), as_number(end)
            self.assertLess(low, high)
            inner = sorted({at for at in bends if low < at < high})
            points = [low, *inner, high]
            for at in inner + [(one + two) / 2 for one, two in zip(points, points[1:])]:
                self.assertEqual(word_by(lines, others, at), word)
            for at in (low, high):
                self.assertIn(word_by(lines, others, at), (word, "same"))
        for (start, end, word), (begins, ends, following) in zip(told, told[1:]):
            self.assertEqual(end, begins)
            if word == following:
                self.assertNotEqual(word_by(lines, others, as_number(end)), word)

    def test_thrown_webs(self):
        for webs in (thrown_webs(31, 60), small_webs(32, 60), [*KEPT, *STAIRED]):
            for web, other in pairs_of_one_top(webs):
                with self.subTest(web=web, other=other):
                    self.check(web, other)

    def test_webs_with_one_number_greater(self):
        for at, web in enumerate((*KEPT, *STAIRED, *small_webs(33, 12))):
            for other in list(one_more(web))[at % 4::4]:
                with self.subTest(web=web, other=other):
                    self.check(web, other)
                    self.assertNotIn("more", [word for start, end, word in beside(web, other)])

    def test_a_web_beside_itself(self):
        for web in (*KEPT, *STAIRED, *thrown_webs(34, 40)):
            self.assertEqual(beside(web, web), [((0, 1), (web[0], 1), "same")])

    def test_the_other_way_round(self):
        for web, other in pairs_of_one_top(thrown_webs(35, 60) + small_webs(36, 60)):
            turned = [(start, end, MIRRORED[word]) for start, end, word in beside(other, web)]
            self.assertEqual(beside(web, other), turned)

    def test_its_kind(self):
        for web, other in pairs_of_one_top(small_webs(37, 40)):
            told = beside(web, other)
            self.assertIsInstance(told, list)
            for stretch in told:
                self.assertIsInstance(stretch, tuple)
                start, end, word = stretch
                self.assertIs(is_fraction(start), True)
                self.assertIs(is_fraction(end), True)
                self.assertIn(word, MIRRORED)


class TestByHand(unittest.TestCase):
    def test_met_within_a_bit(self):
        self.assertEqual(beside(lone(2, (0, 1, 9, 0)), lone(2, (1, 0, 9, 0))),
                         [((0, 1), (1, 1), "less"), ((1, 1), (2, 1), "more")])
        self.assertEqual(beside(lone(2, (0, 3, 9, 0)), lone(2, (2, 0, 9, 0))),
                         [((0, 1), (2, 3), "less"), ((2, 3), (2, 1), "more")])

    def test_met_at_a_break(self):
        # The one bends at 1, where it has come up to the other one and falls again: it must part there.
        self.assertEqual(beside(lone(2, (0, 1, 2, 1)), lone(2, (1, 0, 9, 0))),
                         [((0, 1), (1, 1), "less"), ((1, 1), (2, 1), "less")])
        self.assertEqual(beside(lone(2, (1, 0, 9, 0)), lone(2, (0, 1, 2, 1))),
                         [((0, 1), (1, 1), "more"), ((1, 1), (2, 1), "more")])

    def test_crossed_at_a_break(self):
        self.assertEqual(beside(lone(2, (0, 2, 9, 0)), lone(2, (1, 1, 2, 0))),
                         [((0, 1), (1, 1), "less"), ((1, 1), (2, 1), "more")])

    def test_bends_without_meeting_part_nothing(self):
        self.assertEqual(beside(lone(4, (0, 1, 2, 0)), lone(4, (5, 1, 8, 0))), [((0, 1), (4, 1), "less")])
        self.assertEqual(beside(lone(4, (5, 1, 8, 0)), lone(4, (0, 1, 2, 0))), [((0, 1), (4, 1), "more")])

    def test_met_at_0_alone(self):
        self.assertEqual(beside(lone(3, (0, 2, 99, 0)), lone(3, (0, 1, 99, 0))), [((0, 1), (3, 1), "more")])
        self.assertEqual(beside(lone(3, (0, 1, 99, 0)), lone(3, (0, 2, 99, 0))), [((0, 1), (3, 1), "less")])

    def test_met_at_top_alone(self):
        self.assertEqual(beside(lone(2, (0, 1, 99, 0)), lone(2, (2, 0, 99, 0))), [((0, 1), (2, 1), "less")])
        self.assertEqual(beside(lone(2, (2, 0, 99, 0)), lone(2, (0, 1, 99, 0))), [((0, 1), (2, 1), "more")])

    def test_met_at_both_ends_alone(self):
        self.assertEqual(beside(lone(2, (0, 1, 2, 1)), lone(2, (0, 0, 99, 0))), [((0, 1), (2, 1), "more")])

    def test_the_same_for_a_while(self):
        self.assertEqual(beside(lone(2, (0, 1, 1, 0)), lone(2, (0, 1, 99, 0))),
                         [((0, 1), (1, 1), "same"), ((1, 1), (2, 1), "less")])
        self.assertEqual(beside(lone(3, (0, 1, 2, 0), (0, 1, 1, 0)), lone(3, (1, 1, 99, 0))),
                         [((0, 1), (1, 1), "less"), ((1, 1), (2, 1), "same"), ((2, 1), (3, 1), "less")])

    def test_the_same_by_other_places_and_ties(self):
        # The same worths at all prices, though these webs bend by unlike cuts.
        self.assertEqual(beside(lone(4, (0, 1, 2, 0), (0, 1, 2, 0)), lone(4, (0, 2, 4, 0))), [((0, 1), (4, 1), "same")])
        tied = (4, (("p", 0, 2, 0, 0), ("q", 0, 0, 4, 0)), (("p", "q", 9),))
        self.assertEqual(beside(tied, lone(4, (0, 2, 4, 0))), [((0, 1), (4, 1), "same")])

    def test_two_crossings(self):
        self.assertEqual(beside(lone(3, (1, 1, 5, 0)), lone(3, (0, 4, 9, 3))),
                         [((0, 1), (1, 3), "more"), ((1, 3), (2, 1), "less"), ((2, 1), (3, 1), "more")])

    def test_bends_near_each_other(self):
        # The other one goes on rising for a hundred-and-tenth; from there on both fall together.
        one = lone(9, (99, 99, 999, 11))
        other = lone(9, (98, 99, 999, 11))
        told = beside(one, other)
        self.assertEqual([word for start, end, word in told], ["more", "same"])
        self.assertEqual(told[0][1], as_told(Fraction(901, 110)))


class TestRefusalsAndNewLists(unittest.TestCase):
    def test_unlike_tops(self):
        for web, other in ((PLAIN, LONE), (LONE, PLAIN), (EVEN, PLAIN), (RING, FULL)):
            with self.assertRaises(NoTop):
                beside(web, other)
        places = (("a", 1, 1, 99, 0),)
        for one in range(1, 10):
            for two in range(1, 10):
                if one == two:
                    self.assertEqual(len(beside((one, places, ()), (two, places, ()))), 1)
                else:
                    with self.assertRaises(NoTop):
                        beside((one, places, ()), (two, places, ()))

    def test_a_new_list_each_time(self):
        for web in (PLAIN, NINE_BITS):
            first = beside(web, web)
            kept = list(first)
            first.clear()
            second = beside(web, web)
            self.assertEqual(second, kept)
            second.append(None)
            self.assertEqual(beside(web, web), kept)


if __name__ == "__main__":
    unittest.main()
