"""Streams, and where more can be led: [8], [9], and [2] of them."""

import unittest
from copy import deepcopy
from fractions import Fraction

from cutstairs.errors import NoPrice, NoStream
from cutstairs.fractions import is_fraction
from cutstairs.streams import is_stream, led_from, led_to, stream_at, stream_worth
from samples import (CHAIN, EVEN, FULL, KEPT, LONE, PLAIN, RING, TRAP, Odd, as_number, as_told, no_prices, odd_things,
                     plain_least, prices_of, thrown_webs)

WEBS = KEPT + tuple(thrown_webs(8, 120))
# One place, by which just what comes goes.
PIPE = (4, (("p", 3, 2, 9, 1),), ())


def noughts(web):
    """The stream by which nothing goes."""
    return (((0, 1),) * len(web[1]), ((0, 1),) * len(web[2]), ((0, 1),) * len(web[1]))


def scaled(stream, by):
    """The stream with so much of each part."""
    return tuple(tuple(as_told(as_number(told) * by) for told in part) for part in stream)


def with_part(stream, part, at, thing):
    """The stream with another thing in one place."""
    rows = [list(row) for row in stream]
    rows[part][at] = thing
    return tuple(tuple(row) for row in rows)


def plain_is_stream(web, price, stream):
    """Whether fractions in the shape of a stream are one, reckoned by the words alone."""
    at = as_number(price)
    into, through, out = [[as_number(told) for told in part] for part in stream]
    for (name, a, b, c, d), comes, goes in zip(web[1], into, out):
        if not (0 <= comes <= a + b * at and 0 <= goes <= c - d * at):
            return False
        comes += sum(part for (one, other, size), part in zip(web[2], through) if other == name)
        goes += sum(part for (one, other, size), part in zip(web[2], through) if one == name)
        if comes != goes:
            return False
    return all(0 <= part <= size for (one, other, size), part in zip(web[2], through))


def plain_led(web, price, stream):
    """The places to which, and from which, more can be led, by asking again until nothing new comes."""
    at = as_number(price)
    into, through, out = [[as_number(told) for told in part] for part in stream]
    ways = set()
    for (one, other, size), part in zip(web[2], through):
        if part < size:
            ways.add((one, other))
        if part > 0:
            ways.add((other, one))
    to = {name for (name, a, b, c, d), part in zip(web[1], into) if part < a + b * at}
    away = {name for (name, a, b, c, d), part in zip(web[1], out) if part < c - d * at}
    for _ in web[1]:
        to |= {other for one, other in ways if one in to}
        away |= {one for one, other in ways if other in away}
    return tuple(sorted(to)), tuple(sorted(away))


class TestStreamAt(unittest.TestCase):
    def test_a_stream_of_the_least_worth(self):
        for web in WEBS:
            for price in prices_of(web):
                with self.subTest(web=web, price=price):
                    told = stream_at(web, price)
                    self.assertIs(plain_is_stream(web, price, told), True)
                    self.assertIs(is_stream(web, price, told), True)
                    self.assertEqual(stream_worth(told), as_told(plain_least(web, price)[0]))

    def test_its_kind(self):
        for web in WEBS[:20]:
            for price in prices_of(web):
                told = stream_at(web, price)
                self.assertIsInstance(told, tuple)
                self.assertEqual([len(part) for part in told], [len(web[1]), len(web[2]), len(web[1])])
                for part in told:
                    self.assertIsInstance(part, tuple)
                    for number in part:
                        self.assertIs(is_fraction(number), True)

    def test_told_by_hand(self):
        self.assertEqual(stream_at(PIPE, (0, 1)), (((3, 1),), (), ((3, 1),)))
        self.assertEqual(stream_at(PIPE, (2, 1)), (((7, 1),), (), ((7, 1),)))
        self.assertEqual(stream_at(PIPE, (4, 1)), (((5, 1),), (), ((5, 1),)))
        self.assertEqual(stream_at(PIPE, (1, 2)), (((4, 1),), (), ((4, 1),)))
        self.assertEqual(stream_at(PIPE, (7, 3)), (((20, 3),), (), ((20, 3),)))
        self.assertEqual(stream_at(LONE, (1, 2)), noughts(LONE))

    def test_what_must_be_led_back(self):
        # What a has led to x it must lead to y, for b reaches x alone; but no more of it than there is.
        for through_b in (1, 5):
            web = (1, (("a", 1, 0, 0, 0), ("b", through_b, 0, 0, 0), ("x", 0, 0, 1, 0), ("y", 0, 0, 5, 0)),
                   (("a", "x", 5), ("a", "y", 5), ("b", "x", 5)))
            told = stream_at(web, (0, 1))
            self.assertEqual(stream_worth(told), (2, 1))
            self.assertEqual(told, (((1, 1), (1, 1), (0, 1), (0, 1)), ((0, 1), (1, 1), (1, 1)),
                                    ((0, 1), (0, 1), (1, 1), (1, 1))))

    def test_great_numbers_have_few_steps(self):
        great = 10 ** 19
        for web in (TRAP, FULL, CHAIN):
            for price in ((great - 1, great), (great + 1, great), (1, great)):
                told = stream_at(web, price)
                self.assertIs(plain_is_stream(web, price, told), True)
                self.assertEqual(stream_worth(told), as_told(plain_least(web, price)[0]))

    def test_what_is_no_price(self):
        for web in (PLAIN, LONE, FULL):
            for at, thing in enumerate(no_prices(web)):
                with self.subTest(at=at), self.assertRaises(NoPrice):
                    stream_at(web, thing)

    def test_the_same_whatever_was_asked_ahead(self):
        before = stream_worth(stream_at(RING, (1, 2)))
        for price in prices_of(RING):
            stream_at(RING, price)
        with self.assertRaises(NoPrice):
            stream_at(RING, (5, 1))
        self.assertEqual(stream_worth(stream_at(RING, (1, 2))), before)


class TestStreamWorth(unittest.TestCase):
    def test_all_that_goes_in(self):
        self.assertEqual(stream_worth((((1, 2), (1, 3)), (), ((5, 6), (0, 1)))), (5, 6))
        self.assertEqual(stream_worth((((1, 2), (3, 2)), ((7, 1),), ((2, 1), (0, 1)))), (2, 1))
        self.assertEqual(stream_worth(noughts(RING)), (0, 1))
        for web in KEPT:
            told = stream_at(web, (1, 3))
            self.assertEqual(stream_worth(scaled(told, Fraction(1, 2))), as_told(as_number(stream_worth(told)) / 2))


class TestIsStream(unittest.TestCase):
    def test_noughts_and_parts_of_a_greatest_one(self):
        for web in WEBS[:40]:
            for price in prices_of(web):
                told = stream_at(web, price)
                for by in (Fraction(0), Fraction(1, 2), Fraction(2, 7), Fraction(1)):
                    self.assertIs(is_stream(web, price, scaled(told, by)), True)

    def test_twice_as_much(self):
        for web in WEBS[:40]:
            for price in prices_of(web):
                for by in (Fraction(2), Fraction(-1), Fraction(1001, 1000)):
                    thing = scaled(stream_at(web, price), by)
                    self.assertIs(is_stream(web, price, thing), plain_is_stream(web, price, thing))

    def test_one_part_a_little_more_or_less(self):
        for web in WEBS[:30]:
            for price in prices_of(web)[:5]:
                for stream in (stream_at(web, price), noughts(web), scaled(stream_at(web, price), Fraction(1, 2))):
                    for part in range(3):
                        for at, told in enumerate(stream[part]):
                            for by in (Fraction(1, 10 ** 19), Fraction(-1, 10 ** 19), 1, -1):
                                thing = with_part(stream, part, at, as_told(as_number(told) + by))
                                self.assertIs(is_stream(web, price, thing), False)

    def test_a_little_too_much_that_is_balanced(self):
        small = Fraction(1, 10 ** 19)
        for worth, told in ((Fraction(4), True), (4 + small, False), (4 - small, True), (small, True), (-small, False),
                            (Fraction(0), True)):
            self.assertIs(is_stream(PIPE, (1, 2), ((as_told(worth),), (), (as_told(worth),))), told)
        # Here the tie to the drain is the lesser one.
        for worth, told in ((Fraction(5), True), (5 + small, False), (5 - small, True)):
            self.assertIs(is_stream(PIPE, (4, 1), ((as_told(worth),), (), (as_told(worth),))), told)

    def test_round_a_ring(self):
        # a to b to c to a, and a to b and back, go without anything from the spring.
        none = ((0, 1),) * 3
        for through, told in ((((3, 1), (0, 1), (3, 1), (3, 1)), True), (((1, 2), (0, 1), (1, 2), (1, 2)), True),
                              (((4, 1), (4, 1), (0, 1), (0, 1)), True), (((5, 1), (5, 1), (0, 1), (0, 1)), False),
                              (((4, 1), (0, 1), (4, 1), (4, 1)), False), (((7, 1), (4, 1), (3, 1), (3, 1)), True),
                              (((0, 1), (0, 1), (3, 1), (3, 1)), False), (((-1, 1), (-1, 1), (0, 1), (0, 1)), False),
                              (((3, 1), (0, 1), (3, 1), (0, 1)), False)):
            with self.subTest(through=through):
                self.assertIs(is_stream(RING, (1, 1), (none, through, none)), told)

    def test_at_another_price(self):
        # What fills the tie to the drain at a price is too much for it at greater ones.
        five = (((5, 1),), (), ((5, 1),))
        self.assertIs(is_stream(PIPE, (1, 1), five), True)
        self.assertIs(is_stream(PIPE, (1, 2), five), False)
        six = (((6, 1),), (), ((6, 1),))
        self.assertIs(is_stream(PIPE, (3, 1), six), True)
        self.assertIs(is_stream(PIPE, (4, 1), six), False)

    def test_not_in_lowest_terms(self):
        for number, told in (((2, 1), True), ((4, 2), False), ((-2, -1), False), ((3, 2), True), ((6, 4), False),
                             ((0, 1), True), ((0, 2), False), ((True, 1), False), ((1, 1), True), ((1, True), False)):
            self.assertIs(is_stream(PIPE, (1, 2), ((number,), (), (number,))), told)

    def test_lists_and_other_lengths(self):
        into, through, out = stream_at(RING, (1, 2))
        self.assertIs(is_stream(RING, (1, 2), (into, through, out)), True)
        nought = (0, 1)
        for thing in ([into, through, out], (list(into), through, out), (into, list(through), out),
                      (into, through, list(out)), (into, through), (into, through, out, ()), (into, through, out, None),
                      (into + (nought,), through, out), (into, through + (nought,), out),
                      (into, through, out + (nought,)), (into[:-1], through, out), (into, through[:-1], out),
                      (into, through, out[:-1]), (into + (nought,), through, out + (nought,)), (through, into, out),
                      (into, out), (into,), (), ((), (), ()), (into, None, out), (None, through, out)):
            self.assertIs(is_stream(RING, (1, 2), thing), False)
        listed = with_part((into, through, out), 0, 0, list(into[0]))
        self.assertIs(is_stream(RING, (1, 2), listed), False)

    def test_parts_missing_or_too_many_of_noughts(self):
        none = noughts(RING)
        self.assertIs(is_stream(RING, (1, 2), none), True)
        for part in range(3):
            for row in (none[part][:-1], none[part] + ((0, 1),), ()):
                thing = tuple(row if at == part else none[at] for at in range(3))
                self.assertIs(is_stream(RING, (1, 2), thing), False)

    def test_things_of_any_kind(self):
        for web in (PLAIN, LONE, RING):
            for at, thing in enumerate(odd_things()):
                with self.subTest(at=at):
                    self.assertIs(is_stream(web, (1, 2), thing), False)

    def test_any_kind_in_any_place(self):
        stream = noughts(RING)
        for at, thing in enumerate(odd_things()):
            for part in range(3):
                with self.subTest(at=at, part=part):
                    rows = list(stream)
                    rows[part] = thing
                    self.assertIs(is_stream(RING, (1, 2), tuple(rows)), False)
                    self.assertIs(is_stream(RING, (1, 2), with_part(stream, part, 1, thing)), False)

    def test_no_price_first(self):
        for thing in (noughts(PLAIN), None, [], Odd()):
            for at, price in enumerate(no_prices(PLAIN)):
                with self.subTest(at=at), self.assertRaises(NoPrice):
                    is_stream(PLAIN, price, thing)

    def test_what_is_asked_stays(self):
        thing = ([[0, 1]], [[1, 2], []], {"a": [1]})
        kept = deepcopy(thing)
        is_stream(PLAIN, (1, 2), thing)
        with self.assertRaises(NoStream):
            led_to(PLAIN, (1, 2), thing)
        self.assertEqual(thing, kept)


class TestLed(unittest.TestCase):
    def check(self, web, price, stream):
        to, away = plain_led(web, price, stream)
        with self.subTest(web=web, price=price, stream=stream):
            self.assertEqual(led_to(web, price, stream), to)
            self.assertEqual(led_from(web, price, stream), away)

    def test_by_greatest_streams(self):
        for web in WEBS:
            for price in prices_of(web):
                self.check(web, price, stream_at(web, price))

    def test_by_noughts_and_by_halves(self):
        for web in WEBS:
            for price in prices_of(web):
                self.check(web, price, noughts(web))
                self.check(web, price, scaled(stream_at(web, price), Fraction(1, 2)))

    def test_tuples(self):
        self.assertIsInstance(led_to(RING, (1, 2), noughts(RING)), tuple)
        self.assertIsInstance(led_from(RING, (1, 2), noughts(RING)), tuple)

    def test_told_by_hand(self):
        # At 0 all that the spring leads goes; at TOP nothing more can go from a.
        full = (((2, 1), (0, 1)), ((0, 1),), ((2, 1), (0, 1)))
        self.assertEqual(led_to(PLAIN, (0, 1), full), ())
        self.assertEqual(led_from(PLAIN, (0, 1), full), ("a", "b"))
        none = noughts(PLAIN)
        self.assertEqual(led_to(PLAIN, (0, 1), none), ("a", "b"))
        self.assertEqual(led_from(PLAIN, (3, 1), none), ("a", "b"))
        self.assertEqual(led_to(EVEN, (0, 1), noughts(EVEN)), ("a",))
        # The tie to b is full, and a leads nothing to the drain.
        top = (((5, 1), (4, 1)), ((5, 1),), ((0, 1), (9, 1)))
        self.assertEqual(led_to(PLAIN, (3, 1), top), ("a", "b"))
        self.assertEqual(led_from(PLAIN, (3, 1), top), ())

    def test_back_along_a_tie_that_has_something(self):
        web = (1, (("a", 2, 0, 0, 0), ("b", 3, 0, 2, 0)), (("a", "b", 2),))
        stream = (((2, 1), (0, 1)), ((2, 1),), ((0, 1), (2, 1)))
        self.assertEqual(led_to(web, (0, 1), stream), ("a", "b"))
        web = (1, (("a", 2, 0, 9, 0), ("b", 3, 0, 2, 0)), (("a", "b", 2),))
        self.assertEqual(led_from(web, (0, 1), stream), ("a", "b"))
        web = (1, (("a", 2, 0, 9, 0), ("b", 3, 0, 2, 0)), (("a", "b", 2),))
        nothing_by_it = (((0, 1), (2, 1)), ((0, 1),), ((0, 1), (2, 1)))
        self.assertEqual(led_from(web, (0, 1), nothing_by_it), ("a",))

    def test_not_by_the_drain_nor_by_the_spring(self):
        # a's drain tie has room and b's has something: by the drain one would come to b.
        web = (1, (("a", 5, 0, 5, 0), ("b", 1, 0, 5, 0)), ())
        stream = (((1, 1), (1, 1)), (), ((1, 1), (1, 1)))
        self.assertEqual(led_to(web, (0, 1), stream), ("a",))
        # b's spring tie has something and a's has room: by the spring one would come from b to a.
        web = (1, (("a", 5, 0, 5, 0), ("b", 5, 0, 1, 0)), ())
        self.assertEqual(led_from(web, (0, 1), stream), ("a",))

    def test_along_a_chain(self):
        none = noughts(CHAIN)
        self.assertEqual(led_to(CHAIN, (0, 1), none), tuple("abcdefgh"))
        self.assertEqual(led_from(CHAIN, (0, 1), none), tuple("abcdefgh"))

    def test_what_is_no_price(self):
        for ask in (led_to, led_from):
            for at, price in enumerate(no_prices(PLAIN)):
                for stream in (noughts(PLAIN), None, [], Odd()):
                    with self.subTest(at=at), self.assertRaises(NoPrice):
                        ask(PLAIN, price, stream)

    def test_what_is_no_stream(self):
        for ask in (led_to, led_from):
            for at, thing in enumerate(odd_things()):
                with self.subTest(at=at), self.assertRaises(NoStream):
                    ask(PLAIN, (1, 2), thing)
            for thing in (scaled(stream_at(PLAIN, (1, 2)), Fraction(2)), noughts(RING), list(noughts(PLAIN)),
                          with_part(noughts(PLAIN), 0, 0, (1, 10 ** 19)), with_part(noughts(PLAIN), 1, 0, (0, 2))):
                with self.assertRaises(NoStream):
                    ask(PLAIN, (1, 2), thing)


if __name__ == "__main__":
    unittest.main()
