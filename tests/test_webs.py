"""Webs, prices and sizes: [4] on names, [5], and [2] of them."""

import unittest
from copy import deepcopy

from cutstairs.errors import NoPrice
from cutstairs.webs import is_name, is_price, is_web, names_of, sizes_at
from samples import FULL, KEPT, NAMES, PLAIN, Odd, as_number, as_told, no_prices, odd_things, prices_of, thrown_webs

PLACES = (("a", 1, 2, 30, 3), ("b", 4, 5, 60, 6), ("c", 0, 0, 0, 0))
TIES = (("a", "b", 7), ("b", "a", 1), ("b", "c", 999))


def with_place(*place):
    """A web with this one as its only place, TOP 3."""
    return (3, (place,), ())


def with_ties(*ties):
    return (3, PLACES, ties)


class TestNames(unittest.TestCase):
    def check(self, name, told):
        with self.subTest(name=name):
            self.assertIs(is_name(name), told)
            self.assertIs(is_web(with_place(name, 1, 1, 1, 0)), told)

    def test_one_to_eight_small_letters(self):
        for name in ("a", "z", "m", "top", "az", "abcdefgh", "zzzzzzzz", "aaaaaaaa", "none", "ijklmnop", "qrstuvwx"):
            self.check(name, True)

    def test_none_and_nine(self):
        for name in ("", "abcdefghi", "a" * 20):
            self.check(name, False)

    def test_other_signs(self):
        for sign in ("A", "Z", "0", "9", " ", "`", "{", "_", "-", ".", "\n", "\t", "\u00e4", "\u00df", "\uff41",
                     "\x00"):
            self.check(sign, False)
            self.check("a" + sign, False)
            self.check(sign + "a", False)

    def test_other_kinds(self):
        for name in (None, 1, True, b"a", ["a"], ("a",), {"a": 1}, {}, [], Odd()):
            with self.subTest(kind=str(type(name))):
                self.assertIs(is_name(name), False)
                self.assertIs(is_web(with_place(name, 1, 1, 1, 0)), False)


class TestBounds(unittest.TestCase):
    def check(self, web, told):
        with self.subTest(web=web):
            self.assertIs(is_web(web), told)

    def test_kept_and_thrown_ones(self):
        for web in KEPT + tuple(thrown_webs(1, 60)) + ((3, PLACES, TIES), (3, PLACES, ())):
            self.check(web, True)

    def test_top(self):
        for top in range(1, 10):
            self.check((top, (("a", 0, 0, 9, 1),), ()), True)
        for top in (0, -1, 10, 100, True, False, None, "1", (1, 1), [1]):
            self.check((top, (("a", 0, 0, 99, 1),), ()), False)

    def test_how_many_places(self):
        for many in range(1, 9):
            self.check((1, FULL[1][:many], ()), True)
        self.check((1, (), ()), False)
        self.check((1, tuple((name, 0, 0, 0, 0) for name in "abcdefgh"), ()), True)
        self.check((1, tuple((name, 0, 0, 0, 0) for name in "abcdefghi"), ()), False)

    def test_names_rise(self):
        a, b, c = PLACES
        for places in ((a, b), (a, c), (b, c), (a, b, c)):
            self.check((3, places, ()), True)
        for places in ((b, a), (a, a), (a, c, b), (a, b, b), (b, a, c), (a, ("a", 9, 9, 99, 0))):
            self.check((3, places, ()), False)
        self.check((3, (("a", 0, 0, 0, 0), ("aa", 0, 0, 0, 0)), ()), True)
        self.check((3, (("aa", 0, 0, 0, 0), ("a", 0, 0, 0, 0)), ()), False)
        self.check((3, (("ab", 0, 0, 0, 0), ("b", 0, 0, 0, 0)), ()), True)

    def test_numbers_of_a_place(self):
        for good in (0, 1, 50, 98, 99):
            self.check(with_place("a", good, 1, 999, 1), True)
            self.check(with_place("a", 1, good, 999, 1), True)
            self.check(with_place("a", 1, 1, 999, good), True)
        for bad in (-1, 100, 101, 10 ** 20, True, False, None, "1", (1, 1), [1], {}, Odd()):
            self.check(with_place("a", bad, 1, 999, 1), False)
            self.check(with_place("a", 1, bad, 999, 1), False)
            self.check(with_place("a", 1, 1, 999, bad), False)

    def test_what_a_place_leads_to_the_drain(self):
        for c, d, told in ((0, 0, True), (-1, 0, False), (3, 1, True), (2, 1, False), (297, 99, True), (296, 99, False),
                           (999, 99, True), (1000, 99, False), (999, 0, True), (1000, 0, False), (1000, 1, False)):
            self.check(with_place("a", 1, 1, c, d), told)
        for bad in (-1, 10 ** 20, True, False, None, "9", (9, 1), [9], {}, Odd()):
            self.check(with_place("a", 1, 1, bad, 0), False)
        for top in range(1, 10):
            self.check((top, (("a", 0, 0, 7 * top, 7),), ()), True)
            self.check((top, (("a", 0, 0, 7 * top - 1, 7),), ()), False)
        self.check((9, (("a", 0, 0, 891, 99),), ()), True)
        self.check((9, (("a", 0, 0, 890, 99),), ()), False)

    def test_how_long_a_place_is(self):
        self.check((3, (("a", 1, 1, 9),), ()), False)
        self.check((3, (("a", 1, 1, 9, 1, 1),), ()), False)
        self.check((3, (("a",),), ()), False)
        self.check((3, ((),), ()), False)
        self.check((3, PLACES + ((),), ()), False)

    def test_how_many_ties(self):
        self.check(FULL, True)
        self.assertEqual(len(FULL[2]), 16)
        ends = [(one, other) for one in NAMES for other in NAMES if one != other]
        for many, told in ((0, True), (1, True), (15, True), (16, True), (17, False), (30, False)):
            self.check((9, FULL[1], tuple((one, other, 1) for one, other in ends[:many])), told)

    def test_ends_of_a_tie(self):
        for one, other in (("a", "b"), ("b", "a"), ("a", "c"), ("c", "b")):
            self.check(with_ties((one, other, 5)), True)
        for one, other in (("a", "a"), ("c", "c"), ("a", "d"), ("d", "a"), ("", "a"), ("a", ""), ("A", "b"), ("d", "e"),
                           ("a", None), (None, "a"), (1, "a"), ("a", ["b"]), (["a"], "b"), ({}, "b"), ("a", {}),
                           ("a", ("b",)), (0, 1), (Odd(), "a"), ("a", Odd())):
            self.check(with_ties((one, other, 5)), False)

    def test_sizes_of_a_tie(self):
        for good in (1, 2, 500, 998, 999):
            self.check(with_ties(("a", "b", good)), True)
        for bad in (0, -1, 1000, 10 ** 20, True, False, None, "5", (5, 1), [5], {}, Odd()):
            self.check(with_ties(("a", "b", bad)), False)

    def test_how_long_a_tie_is(self):
        for tie in ((), ("a",), ("a", "b"), ("a", "b", 5, 5), ("a", "b", 5, None)):
            self.check(with_ties(tie), False)

    def test_ties_rise(self):
        ab, ac, ba = ("a", "b", 9), ("a", "c", 1), ("b", "a", 5)
        for ties in ((ab, ac), (ab, ba), (ac, ba), (ab, ac, ba)):
            self.check(with_ties(*ties), True)
        for ties in ((ac, ab), (ba, ab), (ba, ac), (ab, ab), (ab, ba, ac), (ac, ab, ba)):
            self.check(with_ties(*ties), False)

    def test_no_two_ties_are_alike_in_both(self):
        for ties in ((("a", "b", 1), ("a", "b", 2)), (("a", "b", 2), ("a", "b", 1)), (("a", "b", 1), ("a", "b", 1)),
                     (("a", "b", 1), ("b", "a", 1), ("b", "a", 2))):
            self.check(with_ties(*ties), False)

    def test_tuples_and_not_lists(self):
        a, b, c = PLACES
        self.check((3, (a, b, c), TIES), True)
        for web in ([3, PLACES, TIES], (3, list(PLACES), TIES), (3, PLACES, list(TIES)), (3, PLACES, []),
                    (3, (a, list(b), c), TIES), (3, (list(a), b, c), TIES), (3, PLACES, (list(TIES[0]),)),
                    (3, PLACES, (TIES[0], list(TIES[1]), TIES[2])), (3, {"a": 1}, ()), (3, PLACES, {}),
                    (3, "abc", ()), (3, PLACES, ""), (3, PLACES, None), (3, None, ()), (3, PLACES, ({},)),
                    (3, PLACES, (None,)), (3, (None,), ()), (3, ({},), ())):
            self.check(web, False)

    def test_how_long_a_web_is(self):
        for web in ((), (3,), (3, PLACES), (3, PLACES, TIES, ()), (3, PLACES, TIES, None)):
            self.check(web, False)

    def test_things_of_any_kind(self):
        for at, thing in enumerate(odd_things()):
            with self.subTest(at=at):
                self.assertIs(is_web(thing), False)

    def test_any_kind_in_any_place(self):
        for at, thing in enumerate(odd_things()):
            if isinstance(thing, (int, str)) and not isinstance(thing, bool):
                continue
            for web in ((thing, PLACES, TIES), (3, thing, TIES), (3, PLACES, thing), (3, PLACES, TIES + (thing,)),
                        (3, (thing,), ()), (3, PLACES + (thing,), TIES), (3, PLACES, (thing,)),
                        with_place(thing, 1, 1, 9, 1), with_place("a", thing, 1, 9, 1), with_place("a", 1, thing, 9, 1),
                        with_place("a", 1, 1, thing, 1), with_place("a", 1, 1, 9, thing),
                        with_ties((thing, "b", 1)), with_ties(("a", thing, 1)), with_ties(("a", "b", thing))):
                with self.subTest(at=at, web=web):
                    self.assertIs(is_web(web), False)

    def test_what_is_asked_stays(self):
        for thing in ([3, [["a", 1, 1, 9, 1]], []], (3, [("a", 1, 1, 9, 1)], []), (3, (["a", 1, 1, 9, 1],), ()),
                      (3, PLACES, [["a", "b", 5]]), {"a": [1]}):
            kept = deepcopy(thing)
            is_web(thing)
            is_price(PLAIN, thing)
            self.assertEqual(thing, kept)


class TestPrices(unittest.TestCase):
    def test_from_nought_to_top(self):
        for web in KEPT:
            for price in prices_of(web):
                self.assertIs(is_price(web, price), True)

    def test_the_ends_and_just_beyond(self):
        great = 10 ** 19
        for web in KEPT:
            top = web[0]
            for price, told in (((0, 1), True), ((1, great), True), ((-1, great), False), ((-1, 1), False),
                                ((top, 1), True), ((top * great - 1, great), True), ((top * great + 1, great), False),
                                ((top + 1, 1), False), ((2 * top + 1, 2), False), ((2 * top - 1, 2), True)):
                with self.subTest(top=top, price=price):
                    self.assertIs(is_price(web, price), told)

    def test_not_in_lowest_terms(self):
        for price in ((0, 2), (2, 2), (2, 4), (6, 3), (3, 3), (1, 0), (0, 0), (-1, -1), (1, -1)):
            self.assertIs(is_price(PLAIN, price), False)

    def test_things_of_any_kind(self):
        for at, thing in enumerate(no_prices(PLAIN)):
            with self.subTest(at=at):
                self.assertIs(is_price(PLAIN, thing), False)


class TestNamesOf(unittest.TestCase):
    def test_a_tuple_of_all_in_order(self):
        self.assertEqual(names_of(PLAIN), ("a", "b"))
        self.assertEqual(names_of(FULL), NAMES)
        self.assertIsInstance(names_of(PLAIN), tuple)
        for web in thrown_webs(2, 20):
            self.assertEqual(names_of(web), tuple(place[0] for place in web[1]))


class TestSizes(unittest.TestCase):
    def test_told_by_hand(self):
        self.assertEqual(sizes_at(PLAIN, (0, 1)), (((2, 1), (0, 1)), ((5, 1),), ((9, 1), (12, 1))))
        self.assertEqual(sizes_at(PLAIN, (1, 2)), (((5, 2), (2, 1)), ((5, 1),), ((15, 2), (23, 2))))
        self.assertEqual(sizes_at(PLAIN, (3, 1)), (((5, 1), (12, 1)), ((5, 1),), ((0, 1), (9, 1))))
        self.assertEqual(sizes_at(PLAIN, (4, 3)), (((10, 3), (16, 3)), ((5, 1),), ((5, 1), (32, 3))))

    def test_without_ties(self):
        self.assertEqual(sizes_at((1, (("x", 3, 4, 5, 2),), ()), (1, 1)), (((7, 1),), (), ((3, 1),)))

    def test_as_told(self):
        for web in KEPT + tuple(thrown_webs(3, 40)):
            for price in prices_of(web):
                at = as_number(price)
                told = sizes_at(web, price)
                self.assertEqual(told, (tuple(as_told(a + b * at) for _, a, b, _, _ in web[1]),
                                        tuple((size, 1) for _, _, size in web[2]),
                                        tuple(as_told(c - d * at) for _, _, _, c, d in web[1])))
                self.assertIsInstance(told, tuple)
                for part in told:
                    self.assertIsInstance(part, tuple)

    def test_what_is_no_price(self):
        for web in (PLAIN, FULL):
            for at, thing in enumerate(no_prices(web)):
                with self.subTest(at=at), self.assertRaises(NoPrice):
                    sizes_at(web, thing)

    def test_a_refusal_changes_nothing(self):
        before = sizes_at(PLAIN, (1, 2))
        with self.assertRaises(NoPrice):
            sizes_at(PLAIN, (7, 2))
        self.assertEqual(sizes_at(PLAIN, (1, 2)), before)


if __name__ == "__main__":
    unittest.main()
