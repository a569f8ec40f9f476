"""The stair: [12], [13], what [3] says of them, and [2]."""

import unittest
from copy import deepcopy
from fractions import Fraction

from cutstairs.cuts import line_of
from cutstairs.errors import NoPrice
from cutstairs.fractions import is_fraction
from cutstairs.least import least_cut, least_worth, most_cut
from cutstairs.stairs import bits_at, stair_of, worth_by
from samples import (CHAIN, EVEN, EVEN_ROW, FULL, KEPT, LONE, LOOSE, MIXED, NINE_BITS, NINE_BITS_SMALL, PLAIN, STAIRED,
                     as_number, as_told, least_by, no_prices, plain_lines, plain_stair, small_webs, stair_prices,
                     thrown_webs)

WEBS = KEPT + STAIRED + tuple(thrown_webs(13, 120)) + tuple(small_webs(14, 60))
# Three lines meet at 1, where the one of the least LEAN goes on; the middle one is never least but there.
SKIPPED = (2, (("a", 0, 1, 1, 0), ("b", 0, 1, 1, 0)), ())
# It would bend at 0 and at TOP alone.
EDGES = (3, (("a", 0, 1, 0, 0), ("b", 0, 1, 3, 0)), ())


def ends_of_stretches(web, breaks):
    """0, the breaks and TOP, as numbers."""
    return [Fraction(0), *[as_number(at) for at in breaks], Fraction(web[0])]


def lies_within(one, other):
    """Whether all names of one are the other's."""
    return set(one) <= set(other)


class TestStair(unittest.TestCase):
    def test_as_by_the_lines_of_all_cuts(self):
        for web in WEBS:
            with self.subTest(web=web):
                self.assertEqual(stair_of(web), plain_stair(web))

    def test_the_same_cuts_strictly_within_each_stretch(self):
        for web in WEBS:
            lines = plain_lines(web)
            bits, breaks = stair_of(web)
            ends = ends_of_stretches(web, breaks)
            for bit, low, high in zip(bits, ends, ends[1:]):
                for by in (Fraction(1, 10 ** 9), Fraction(1, 3), Fraction(1, 2), 1 - Fraction(1, 10 ** 9)):
                    cuts = least_by(lines, as_told(low + (high - low) * by))
                    self.assertEqual(min(cuts, key=len), bit[0])
                    self.assertEqual(max(cuts, key=len), bit[1])
                    self.assertEqual(lines[cuts[0]], bit[2:])

    def test_its_kind(self):
        for web in WEBS:
            told = stair_of(web)
            self.assertIs(type(told), tuple)
            self.assertEqual(len(told), 2)
            bits, breaks = told
            self.assertIs(type(bits), list)
            self.assertIs(type(breaks), list)
            self.assertEqual(len(bits), len(breaks) + 1)
            self.assertLessEqual(len(bits), len(web[1]) + 1)
            for at in breaks:
                self.assertIs(is_fraction(at), True)
            for bit in bits:
                self.assertEqual([type(part) for part in bit], [tuple, tuple, int, int])
                self.assertIs(type(bit), tuple)
                self.assertEqual(line_of(web, bit[0]), bit[2:])
                self.assertEqual(line_of(web, bit[1]), bit[2:])

    def test_breaks_rise_leans_fall_cuts_grow(self):
        for web in WEBS:
            bits, breaks = stair_of(web)
            ends = ends_of_stretches(web, breaks)
            self.assertTrue(all(one < other for one, other in zip(ends, ends[1:])))
            for one, other in zip(bits, bits[1:]):
                self.assertGreater(one[3], other[3])
                self.assertTrue(lies_within(one[0], other[0]) and one[0] != other[0])
                self.assertTrue(lies_within(one[1], other[1]) and one[1] != other[1])

    def test_the_cuts_at_a_break(self):
        for web in WEBS:
            bits, breaks = stair_of(web)
            for at, ahead, behind in zip(breaks, bits, bits[1:]):
                self.assertEqual(least_cut(web, at), ahead[0])
                self.assertEqual(most_cut(web, at), behind[1])

    def test_the_sample_has_many_kinds(self):
        many = [len(stair_of(web)[0]) for web in WEBS]
        for bits in (1, 2, 3, 4, 5, 9):
            self.assertIn(bits, many)
        self.assertTrue(any(bit[0] != bit[1] for web in WEBS for bit in stair_of(web)[0]))
        self.assertTrue({1, 9} <= {web[0] for web in WEBS if len(stair_of(web)[0]) > 2})


class TestToldByHand(unittest.TestCase):
    def test_one_bit(self):
        self.assertEqual(stair_of(LONE), ([((), ("x",), 0, 0)], []))
        self.assertEqual(stair_of(LOOSE), ([((), tuple("abcdefgh"), 0, 0)], []))
        self.assertEqual(stair_of((1, (("a", 0, 0, 1, 1),), ())), ([((), (), 0, 0)], []))

    def test_two_bits(self):
        self.assertEqual(stair_of(PLAIN), ([((), (), 2, 5), (("a", "b"), ("a", "b"), 21, -4)], [(19, 9)]))
        self.assertEqual(stair_of(EVEN), ([((), (), 1, 3), (("a", "b"), ("a", "b"), 5, -1)], [(1, 1)]))

    def test_nine_bits(self):
        bits = [(tuple("abcdefgh"[:at]), tuple("abcdefgh"[:at]), sum(range(at + 1)), 8 - at) for at in range(9)]
        self.assertEqual(stair_of(NINE_BITS), (bits, [(at, 1) for at in range(1, 9)]))
        bits, breaks = stair_of(NINE_BITS_SMALL)
        self.assertEqual([bit[0] for bit in bits], [tuple("abcdefgh"[:at]) for at in range(9)])
        self.assertEqual(breaks, [as_told(Fraction(at, 10)) for at in range(1, 9)])

    def test_of_several_lines_that_meet_the_least_lean_goes_on(self):
        self.assertEqual(stair_of(SKIPPED), ([((), (), 0, 2), (("a", "b"), ("a", "b"), 2, 0)], [(1, 1)]))
        self.assertEqual(stair_of(EVEN_ROW)[1], [(1, 1)])

    def test_no_break_at_0_or_top(self):
        self.assertEqual(stair_of(EDGES), ([(("a",), ("a",), 0, 1)], []))

    def test_along_a_chain(self):
        self.assertEqual(stair_of(CHAIN), ([((), (), 99, 99), (tuple("abcdefgh"),) * 2 + (999, -99)], [(50, 11)]))


class TestNested(unittest.TestCase):
    def test_what_both_have_and_what_one_has(self):
        for web in WEBS[:60]:
            lines = plain_lines(web)
            prices = stair_prices(web)
            for low, high in zip(prices, prices[2:]):
                ahead = least_by(lines, low)
                behind = least_by(lines, high)
                outermost = [(s, t) for s in (ahead[0], ahead[-1]) for t in (behind[0], behind[-1])]
                for s, t in outermost:
                    self.assertIn(tuple(sorted(set(s) & set(t))), ahead)
                    self.assertIn(tuple(sorted(set(s) | set(t))), behind)

    def test_least_and_most_cuts_lie_one_within_another(self):
        for web in WEBS[:60]:
            prices = stair_prices(web)
            for cut_of in (least_cut, most_cut):
                told = [cut_of(web, price) for price in prices]
                self.assertTrue(all(lies_within(one, other) for one, other in zip(told, told[1:])))


class TestByTheStair(unittest.TestCase):
    def test_the_least_worth(self):
        for web in WEBS:
            for price in stair_prices(web):
                with self.subTest(web=web, price=price):
                    self.assertEqual(worth_by(web, price), least_worth(web, price))

    def test_the_numbers_of_the_bits(self):
        for web in WEBS:
            bits, breaks = plain_stair(web)
            for price in stair_prices(web):
                worths = [bit[2] + bit[3] * as_number(price) for bit in bits]
                with self.subTest(web=web, price=price):
                    told = bits_at(web, price)
                    self.assertEqual(told, [at for at in range(len(bits)) if worths[at] == min(worths)])
                    self.assertIs(type(told), list)
                    self.assertEqual(len(told), 2 if price in breaks else 1)

    def test_told_by_hand(self):
        self.assertEqual([bits_at(PLAIN, price) for price in ((0, 1), (2, 1), (19, 9), (20, 9), (3, 1))],
                         [[0], [0], [0, 1], [1], [1]])
        self.assertEqual([worth_by(PLAIN, price) for price in ((0, 1), (2, 1), (19, 9), (20, 9), (3, 1))],
                         [(2, 1), (12, 1), (113, 9), (109, 9), (9, 1)])
        self.assertEqual([bits_at(NINE_BITS, (at, 1)) for at in range(10)],
                         [[0], *[[at - 1, at] for at in range(1, 9)], [8]])
        self.assertEqual(bits_at(LONE, (1, 2)), [0])

    def test_what_is_no_price(self):
        for ask in (worth_by, bits_at):
            for web in (PLAIN, LONE, FULL):
                for at, thing in enumerate(no_prices(web)):
                    with self.subTest(ask=ask.__name__, at=at), self.assertRaises(NoPrice):
                        ask(web, thing)

    def test_a_refusal_changes_nothing(self):
        before = (stair_of(PLAIN), worth_by(PLAIN, (19, 9)), bits_at(PLAIN, (19, 9)))
        for ask in (worth_by, bits_at):
            with self.assertRaises(NoPrice):
                ask(PLAIN, (4, 1))
        self.assertEqual((stair_of(PLAIN), worth_by(PLAIN, (19, 9)), bits_at(PLAIN, (19, 9))), before)


class TestOwn(unittest.TestCase):
    def test_told_lists_that_were_changed(self):
        for web in (PLAIN, EVEN, MIXED, NINE_BITS):
            before = deepcopy(stair_of(web))
            bits, breaks = stair_of(web)
            bits.reverse()
            bits[0] = None
            breaks.append("changed")
            breaks[0] = ()
            self.assertEqual(stair_of(web), before)
            numbers = bits_at(web, before[1][0])
            numbers.clear()
            self.assertEqual(bits_at(web, before[1][0]), [0, 1])
            self.assertEqual(worth_by(web, before[1][0]), least_worth(web, before[1][0]))


if __name__ == "__main__":
    unittest.main()
