"""The shape of all least cuts at a price, how many they are and which: [11], what [3] says of them, and [2]."""

import unittest

from cutstairs.errors import NoPrice
from cutstairs.shapes import cuts_at, many_cuts, shape_at
from cutstairs.webs import is_web
from samples import (EVEN, EVEN_PAIRS, EVEN_RING, EVEN_ROW, FULL, KEPT, LONE, LOOSE, LOOSE_RING, LOOSE_ROW, MIXED,
                     PLAIN, STAIRED, least_by, no_prices, plain_lines, small_webs, stair_prices, thrown_webs)

WEBS = KEPT + STAIRED + tuple(thrown_webs(11, 60)) + tuple(small_webs(12, 80))
ASKED = (shape_at, many_cuts, cuts_at)


def plain_shape(web, cuts):
    """The shape, found from all least cuts."""
    names = [place[0] for place in web[1]]
    low = tuple(name for name in names if all(name in cut for cut in cuts))
    some = [name for name in names if name not in low and any(name in cut for cut in cuts)]
    blocks = []
    for name in some:
        alike = tuple(other for other in some if all((name in cut) == (other in cut) for cut in cuts))
        if alike not in blocks:
            blocks.append(alike)
    blocks.sort(key=lambda block: block[0])
    arrows = tuple((i, j) for i in range(len(blocks)) for j in range(len(blocks))
                   if i != j and all(blocks[j][0] in cut for cut in cuts if blocks[i][0] in cut))
    return (low, tuple(blocks), arrows)


def questions():
    """All webs with their lines, and each price to ask."""
    for web in WEBS:
        lines = plain_lines(web)
        for price in stair_prices(web):
            yield web, price, least_by(lines, price)


class TestShape(unittest.TestCase):
    def test_the_samples_are_webs(self):
        self.assertTrue(all(is_web(web) for web in WEBS))

    def test_as_by_going_through_all_cuts(self):
        for web, price, cuts in questions():
            with self.subTest(web=web, price=price):
                self.assertEqual(shape_at(web, price), plain_shape(web, cuts))
                self.assertEqual(cuts_at(web, price), cuts)
                self.assertEqual(many_cuts(web, price), len(cuts))

    def test_their_kinds(self):
        for web in WEBS[:40]:
            for price in stair_prices(web):
                told = shape_at(web, price)
                self.assertIsInstance(told, tuple)
                for part in told:
                    self.assertIsInstance(part, tuple)
                for row in (*told[1], *told[2]):
                    self.assertIsInstance(row, tuple)
                self.assertIs(type(many_cuts(web, price)), int)
                self.assertIs(type(cuts_at(web, price)), list)
                for cut in cuts_at(web, price):
                    self.assertIsInstance(cut, tuple)

    def test_the_thrown_ones_have_many_least_cuts(self):
        shapes = [shape_at(web, price) for web in WEBS for price in stair_prices(web)]
        self.assertGreater(len([shape for shape in shapes if len(shape[1]) > 2]), 10)
        self.assertGreater(len([shape for shape in shapes if shape[0] and shape[2]]), 5)
        self.assertGreater(len([shape for shape in shapes if any(len(block) > 1 for block in shape[1])]), 5)


class TestToldByHand(unittest.TestCase):
    def test_one_least_cut(self):
        self.assertEqual(shape_at(PLAIN, (0, 1)), ((), (), ()))
        self.assertEqual(cuts_at(PLAIN, (0, 1)), [()])
        self.assertEqual(many_cuts(PLAIN, (0, 1)), 1)
        self.assertEqual(shape_at(PLAIN, (3, 1)), (("a", "b"), (), ()))
        self.assertEqual(cuts_at(PLAIN, (3, 1)), [("a", "b")])

    def test_two_least_cuts(self):
        self.assertEqual(shape_at(PLAIN, (19, 9)), ((), (("a", "b"),), ()))
        self.assertEqual(cuts_at(PLAIN, (19, 9)), [(), ("a", "b")])
        self.assertEqual(shape_at(LONE, (1, 2)), ((), (("x",),), ()))
        self.assertEqual(cuts_at(LONE, (1, 2)), [(), ("x",)])

    def test_all_cuts_least(self):
        self.assertEqual(shape_at(EVEN, (1, 1)), ((), (("a",), ("b",)), ()))
        self.assertEqual(cuts_at(EVEN, (1, 1)), [(), ("a",), ("a", "b"), ("b",)])
        self.assertEqual(many_cuts(LOOSE, (1, 1)), 256)
        self.assertEqual(shape_at(LOOSE, (1, 1)), ((), tuple((name,) for name in "abcdefgh"), ()))

    def test_rows_and_rings_of_eight(self):
        along = tuple((i, j) for i in range(8) for j in range(i + 1, 8))
        for web, price in ((LOOSE_ROW, (2, 1)), (LOOSE_ROW, (0, 1)), (EVEN_ROW, (1, 1))):
            self.assertEqual(shape_at(web, price), ((), tuple((name,) for name in "abcdefgh"), along))
            self.assertEqual(cuts_at(web, price), sorted(tuple("abcdefgh"[at:]) for at in range(9)))
            self.assertEqual(many_cuts(web, price), 9)
        for web, price in ((LOOSE_RING, (2, 1)), (LOOSE_RING, (1, 3)), (EVEN_RING, (1, 1))):
            self.assertEqual(shape_at(web, price), ((), (tuple("abcdefgh"),), ()))
            self.assertEqual(cuts_at(web, price), [(), tuple("abcdefgh")])
            self.assertEqual(many_cuts(web, price), 2)

    def test_pairs_of_places(self):
        blocks = (("a", "b"), ("c", "d"), ("e", "f"), ("g",), ("h",))
        self.assertEqual(shape_at(EVEN_PAIRS, (1, 1)), ((), blocks, ((0, 1), (0, 3), (1, 3))))
        # Of the first row none, g, cdg or abcdg; with or without ef; with or without h.
        self.assertEqual(many_cuts(EVEN_PAIRS, (1, 1)), 16)

    def test_what_is_always_within_and_what_never(self):
        self.assertEqual(shape_at(MIXED, (2, 1)), (("c", "e", "f"), (("b",), ("d",)), ()))
        self.assertEqual(cuts_at(MIXED, (2, 1)), [("b", "c", "d", "e", "f"), ("b", "c", "e", "f"),
                                                  ("c", "d", "e", "f"), ("c", "e", "f")])


class TestRefusals(unittest.TestCase):
    def test_what_is_no_price(self):
        for ask in ASKED:
            for web in (PLAIN, LONE, FULL):
                for at, thing in enumerate(no_prices(web)):
                    with self.subTest(ask=ask.__name__, at=at), self.assertRaises(NoPrice):
                        ask(web, thing)

    def test_a_refusal_changes_nothing(self):
        before = [ask(EVEN, (1, 1)) for ask in ASKED]
        for ask in ASKED:
            with self.assertRaises(NoPrice):
                ask(EVEN, (3, 1))
        self.assertEqual([ask(EVEN, (1, 1)) for ask in ASKED], before)


class TestOwn(unittest.TestCase):
    def test_a_told_list_that_was_changed(self):
        for web in (EVEN, LOOSE, EVEN_ROW):
            before = tuple(cuts_at(web, (1, 1)))
            told = cuts_at(web, (1, 1))
            told.reverse()
            told[0] = "changed"
            told.append(None)
            self.assertEqual(tuple(cuts_at(web, (1, 1))), before)
            cuts_at(web, (1, 1)).clear()
            self.assertEqual(many_cuts(web, (1, 1)), len(before))
            self.assertIsNot(cuts_at(web, (1, 1)), cuts_at(web, (1, 1)))


if __name__ == "__main__":
    unittest.main()
