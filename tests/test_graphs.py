"""Graphs and the pairs within their parts: [18], and [2] of it."""

import unittest
from itertools import combinations

from cutstairs.graphs import is_graph, within
from graph_samples import FULLEST, KEPT_GRAPHS, LONG_NAMES, ONE, SEVEN, TAIL, TWO, graph, graphs_of_four, thrown_graphs
from samples import Odd, odd_things


class TestIsGraph(unittest.TestCase):
    def check(self, thing, told):
        with self.subTest(thing=repr(thing)[:200]):
            self.assertIs(is_graph(thing), told)

    def test_graphs(self):
        for thing in (*KEPT_GRAPHS, *graphs_of_four(), *thrown_graphs(21, 100)):
            self.check(thing, True)

    def test_things_of_any_kind(self):
        for at, thing in enumerate(odd_things()):
            with self.subTest(at=at):
                self.assertIs(is_graph(thing), False)

    def test_how_many_names(self):
        self.check(((), ()), False)
        self.check((("a",), ()), True)
        self.check((tuple(SEVEN), ()), True)
        self.check((tuple("abcdefgh"), ()), False)

    def test_names(self):
        for names in (("b", "a"), ("a", "a"), ("a", "c", "b"), ("", "a"), ("a", "B"), ("A",), ("a1",), ("a b",),
                      ("abcdefghi",), ("a", None), (None, "a"), (1, 2), ("a", 1), (("a",),), ("a", ["b"]), (b"a",),
                      ("a", Odd()), (Odd(), "b"), (True,), ("a\n",)):
            self.check((names, ()), False)
        for names in (("abcdefgh",), ("a", "aa"), ("aa", "b"), ("a", "ab", "b", "top", "z")):
            self.check((names, ()), True)

    def test_names_of_another_kind(self):
        for names in (["a", "b"], "ab", "a", {"a": 1, "b": 2}, {"a"}, None, 2, Odd(), b"ab", range(2)):
            self.check((names, ()), False)

    def test_how_many_pairs(self):
        pairs = tuple(combinations(SEVEN, 2))
        self.check((tuple(SEVEN), pairs[:11]), True)
        self.check((tuple(SEVEN), pairs[:12]), True)
        self.check((tuple(SEVEN), pairs[:13]), False)
        self.check((tuple(SEVEN), pairs), False)

    def test_pairs_rise(self):
        names = ("a", "b", "c")
        self.check((names, (("a", "b"), ("a", "c"), ("b", "c"))), True)
        self.check((names, (("a", "c"), ("a", "b"))), False)
        self.check((names, (("b", "c"), ("a", "b"))), False)
        self.check((names, (("a", "b"), ("a", "b"))), False)
        self.check((names, (("a", "b"), ("b", "c"), ("a", "c"))), False)

    def test_the_two_of_a_pair(self):
        names = ("a", "b", "c")
        for pair in (("b", "a"), ("a", "a"), ("c", "c"), ("a", "d"), ("aa", "b"), ("d", "e"), ("A", "b"), ("", "a"),
                     ("a", ""), ("a",), ("a", "b", "c"), (), ["a", "b"], "ab", {"a": "b"}, {"a", "b"}, None, 1, Odd(),
                     ("a", None), (None, "b"), ("a", 1), (0, 1), ("a", ["b"]), (["a"], "b"), (("a",), "b"), (b"a", b"b"),
                     ("a", Odd()), (Odd(), "b"), (Odd(), Odd()), ("a", True), ("a", {}), ("a", ("b",))):
            self.check((names, (pair,)), False)
            self.check((names, (("a", "b"), pair)), False)
            self.check((names, (pair, ("b", "c"))), False)
        self.check((names, (("a", "b"), ("b", "a"))), False)

    def test_pairs_of_another_kind(self):
        for pairs in ([], [("a", "b")], {}, {("a", "b")}, {("a", "b"): 1}, "", "ab", None, 0, False, Odd()):
            self.check((("a", "b"), pairs), False)

    def test_the_whole(self):
        names, pairs = TAIL
        self.check([names, pairs], False)
        self.check((names,), False)
        self.check((names, pairs, ()), False)
        self.check((pairs, names), False)
        self.check(names, False)
        self.check({0: names, 1: pairs}, False)


class TestWithin(unittest.TestCase):
    def test_as_pair_by_pair(self):
        for told in (*KEPT_GRAPHS, *thrown_graphs(22, 40)):
            names, pairs = told
            for many in range(len(names) + 1):
                for part in combinations(names, many):
                    inside = [pair for pair in pairs if set(pair) <= set(part)]
                    self.assertEqual(within(told, part), len(inside))

    def test_told_by_hand(self):
        self.assertEqual(within(TAIL, ()), 0)
        self.assertEqual(within(TAIL, ("a",)), 0)
        self.assertEqual(within(TAIL, ("a", "b")), 1)
        self.assertEqual(within(TAIL, ("a", "f")), 0)
        self.assertEqual(within(TAIL, ("a", "b", "c", "d")), 6)
        self.assertEqual(within(TAIL, ("d", "e", "f")), 2)
        self.assertEqual(within(TAIL, TAIL[0]), 8)
        self.assertEqual(within(FULLEST, FULLEST[0]), 12)
        self.assertEqual(within(ONE, ("a",)), 0)
        self.assertEqual(within(TWO, ("a", "b")), 0)

    def test_names_are_not_letters(self):
        self.assertEqual(within(LONG_NAMES, ("a", "ab")), 0)
        self.assertEqual(within(LONG_NAMES, ("aa", "zzzzzzzz")), 1)
        self.assertEqual(within(graph(["a"], []), ("a",)), 0)

    def test_its_kind(self):
        self.assertIs(type(within(TAIL, ("a", "b"))), int)


if __name__ == "__main__":
    unittest.main()
