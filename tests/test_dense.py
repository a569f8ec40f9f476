"""The densest and the thickest part, and leans: [18], [19], [20], what [3] says of them, and [2]."""

import unittest
from fractions import Fraction
from itertools import combinations

from cutstairs.dense import densest, density_leans, thickest, thickness_leans
from cutstairs.errors import NoPart
from cutstairs.fractions import is_fraction
from cutstairs.graphs import is_graph
from graph_samples import (APART, FULLEST, KEPT_GRAPHS, LONG_NAMES, ONE, SEVEN, STAR, TAIL, TIED_TWO, TOUCHING, TWO,
                           every_pair, graph, graphs_of_four, ring_of, row_of, thrown_graphs)
from samples import as_number, as_told

GRAPHS = (*KEPT_GRAPHS, *graphs_of_four(), *thrown_graphs(23, 150))
WIDER = tuple(told for told in GRAPHS if len(told[0]) > 1)


def plain_best(told, less):
    """The most pairs by names less so many, and all parts that have it."""
    names, pairs = told
    worths = {}
    for many in range(1 + less, len(names) + 1):
        for part in combinations(names, many):
            worths[part] = Fraction(len([pair for pair in pairs if set(pair) <= set(part)]), many - less)
    most = max(worths.values())
    return most, [part for part in worths if worths[part] == most]


def borne(told, leans):
    """How much each name bears by the leans."""
    names, pairs = told
    bears = {name: Fraction(0) for name in names}
    for (one, other), lean in zip(pairs, leans):
        bears[one] += as_number(lean)
        bears[other] += 1 - as_number(lean)
    return bears


class TestDensest(unittest.TestCase):
    def test_as_by_going_through_all_parts(self):
        for told in GRAPHS:
            most, parts = plain_best(told, 0)
            greatest = tuple(sorted(set().union(*parts)))
            self.assertIn(greatest, parts)
            with self.subTest(graph=told):
                self.assertEqual(densest(told), (as_told(most), greatest))

    def test_the_samples_are_graphs(self):
        self.assertTrue(all(is_graph(told) for told in GRAPHS))
        self.assertGreater(len([told for told in GRAPHS if len(plain_best(told, 0)[1]) > 1]), 20)
        self.assertGreater(len([told for told in GRAPHS if len(densest(told)[1]) < len(told[0])]), 20)

    def test_told_by_hand(self):
        self.assertEqual(densest(TAIL), ((3, 2), ("a", "b", "c", "d")))
        self.assertEqual(densest(APART), ((1, 1), tuple("abcdef")))
        self.assertEqual(densest(TOUCHING), ((6, 5), tuple("abcde")))
        self.assertEqual(densest(STAR), ((6, 7), tuple(SEVEN)))
        self.assertEqual(densest(FULLEST), ((2, 1), tuple("abcde")))
        self.assertEqual(densest(TIED_TWO), ((1, 2), ("a", "b")))
        self.assertEqual(densest(LONG_NAMES), ((1, 1), LONG_NAMES[0]))
        for many in range(3, 8):
            self.assertEqual(densest(row_of(SEVEN[:many])), (as_told(Fraction(many - 1, many)), tuple(SEVEN[:many])))
            self.assertEqual(densest(ring_of(SEVEN[:many])), ((1, 1), tuple(SEVEN[:many])))

    def test_without_pairs(self):
        self.assertEqual(densest(ONE), ((0, 1), ("a",)))
        self.assertEqual(densest(TWO), ((0, 1), ("a", "b")))
        self.assertEqual(densest(graph(SEVEN, [])), ((0, 1), tuple(SEVEN)))

    def test_its_kind(self):
        for told in GRAPHS:
            self.assertIs(type(densest(told)), tuple)
            self.assertIs(is_fraction(densest(told)[0]), True)
            self.assertIs(type(densest(told)[1]), tuple)


class TestThickest(unittest.TestCase):
    def test_as_by_going_through_all_parts(self):
        for told in WIDER:
            most, parts = plain_best(told, 1)
            with self.subTest(graph=told):
                worth, part = thickest(told)
                self.assertEqual(worth, as_told(most))
                self.assertIn(part, parts)

    def test_told_by_hand(self):
        self.assertEqual(thickest(TAIL), ((2, 1), ("a", "b", "c", "d")))
        self.assertEqual(thickest(FULLEST), ((5, 2), tuple("abcde")))
        self.assertEqual(thickest(TIED_TWO), ((1, 1), ("a", "b")))
        self.assertEqual(thickest(TWO), ((0, 1), ("a", "b")))
        self.assertEqual(thickest(graph(SEVEN, []))[0], (0, 1))
        self.assertEqual(thickest(row_of(SEVEN))[0], (1, 1))
        self.assertEqual(thickest(ring_of(SEVEN)), ((7, 6), tuple(SEVEN)))
        self.assertEqual(thickest(TOUCHING)[0], (3, 2))
        self.assertEqual(thickest(APART)[0], (3, 2))
        self.assertIn(thickest(APART)[1], (tuple("abc"), tuple("def")))
        self.assertEqual(thickest(every_pair("abcd")), ((2, 1), tuple("abcd")))

    def test_its_kind(self):
        for told in WIDER:
            self.assertIs(type(thickest(told)), tuple)
            self.assertIs(is_fraction(thickest(told)[0]), True)
            self.assertIs(type(thickest(told)[1]), tuple)


class TestLeans(unittest.TestCase):
    def check_leans(self, told, leans, most):
        """That leans are ones, and lay no more than most on any name."""
        self.assertIs(type(leans), tuple)
        self.assertEqual(len(leans), len(told[1]))
        for lean in leans:
            self.assertIs(is_fraction(lean), True)
            self.assertTrue(0 <= as_number(lean) <= 1)
        for bears in borne(told, leans).values():
            self.assertLessEqual(bears, most)

    def test_of_the_density(self):
        for told in GRAPHS:
            with self.subTest(graph=told):
                self.check_leans(told, density_leans(told), plain_best(told, 0)[0])

    def test_of_the_thickness(self):
        for told in WIDER:
            rows = thickness_leans(told)
            self.assertIs(type(rows), tuple)
            self.assertEqual(len(rows), len(told[0]))
            most = plain_best(told, 1)[0]
            for name, leans in zip(told[0], rows):
                with self.subTest(graph=told, name=name):
                    self.check_leans(told, leans, most)
                    self.assertEqual(borne(told, leans)[name], 0)

    def test_where_there_is_just_one_choice(self):
        self.assertEqual(density_leans(TIED_TWO), ((1, 2),))
        self.assertEqual(thickness_leans(TIED_TWO), (((0, 1),), ((1, 1),)))
        self.assertEqual(density_leans(row_of("abc")), ((2, 3), (1, 3)))
        self.assertEqual(thickness_leans(row_of("abc")),
                         (((0, 1), (0, 1)), ((1, 1), (0, 1)), ((1, 1), (1, 1))))
        self.assertEqual(density_leans(STAR), ((1, 7),) * 6)

    def test_rows_rings_and_all_pairs(self):
        shapes = [row_of(SEVEN), ring_of("abc"), ring_of(SEVEN), every_pair("abcd"), every_pair("abcde")]
        for told in shapes:
            self.check_leans(told, density_leans(told), Fraction(len(told[1]), len(told[0])))
            for name, leans in zip(told[0], thickness_leans(told)):
                self.check_leans(told, leans, Fraction(len(told[1]), len(told[0]) - 1))
                self.assertEqual(borne(told, leans)[name], 0)

    def test_without_pairs(self):
        self.assertEqual(density_leans(ONE), ())
        self.assertEqual(density_leans(TWO), ())
        self.assertEqual(thickness_leans(TWO), ((), ()))
        self.assertEqual(thickness_leans(graph("abc", [])), ((), (), ()))


class TestRefusals(unittest.TestCase):
    def test_one_name_has_no_thickness(self):
        for name in ("a", "none", "zzzzzzzz"):
            for ask in (thickest, thickness_leans):
                with self.assertRaises(NoPart):
                    ask(((name,), ()))

    def test_one_name_has_a_density(self):
        self.assertEqual(densest((("none",), ())), ((0, 1), ("none",)))
        self.assertEqual(density_leans((("none",), ())), ())

    def test_a_refusal_changes_nothing(self):
        before = (densest(TAIL), thickest(TAIL), density_leans(TAIL), thickness_leans(TAIL))
        for ask in (thickest, thickness_leans):
            with self.assertRaises(NoPart):
                ask(ONE)
        self.assertEqual((densest(TAIL), thickest(TAIL), density_leans(TAIL), thickness_leans(TAIL)), before)


if __name__ == "__main__":
    unittest.main()
