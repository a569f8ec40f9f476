"""Jobs and tools: [23], and [2] of it."""

import unittest
from fractions import Fraction

from cutstairs.errors import NoPrice
from cutstairs.fractions import is_fraction
from cutstairs.houses import best_jobs, is_house, jobs_stair
from house_samples import (FULL_HOUSE, IDLE, JOB_ALONE, KEPT_HOUSES, SHARED, STEPS, TOOL_ALONE, line_earned, plain_best,
                           sets_of_jobs, thrown_houses)
from samples import as_number, as_told, no_prices, odd_but_numbers, odd_but_texts, odd_things, prices_of

HOUSES = KEPT_HOUSES + tuple(thrown_houses(51, 160))


def house(top=2, jobs=(("a", 1, 1, ("t",)),), tools=(("t", 9, 1),)):
    """A small house with some of it put otherwise."""
    return (top, jobs, tools)


def job(name="a", gain=1, grows=1, wants=("t",)):
    return house(jobs=((name, gain, grows, wants),))


def tool(name="t", cost=9, falls=1, top=2):
    return house(top, (("a", 1, 1, (name,)),), ((name, cost, falls),))


def jobs_named(*names):
    return tuple((name, 1, 1, ()) for name in names)


def tools_named(*names):
    return tuple((name, 9, 1) for name in names)


class TestIsHouse(unittest.TestCase):
    def check(self, thing, told):
        with self.subTest(thing=thing):
            self.assertIs(is_house(thing), told)

    def test_houses(self):
        for thing in (*HOUSES, house(), job(), tool()):
            self.check(thing, True)

    def test_top(self):
        for top in range(1, 10):
            self.check(house(top), True)
        for top in (0, 10, -1, True, None, "1", (1,)):
            self.check(house(top), False)

    def test_how_many_together(self):
        self.check((2, (), ()), False)
        self.check((2, jobs_named(*"abcdefgh"), ()), True)
        self.check((2, jobs_named(*"abcdefghi"), ()), False)
        self.check((2, (), tools_named(*"abcdefgh")), True)
        self.check((2, (), tools_named(*"abcdefghi")), False)
        self.check((2, jobs_named(*"abcd"), tools_named(*"efgh")), True)
        self.check((2, jobs_named(*"abcd"), tools_named(*"efghi")), False)
        self.check((2, jobs_named(*"abcde"), tools_named(*"fghi")), False)
        self.check((2, jobs_named("a"), ()), True)
        self.check((2, (), tools_named("a")), True)

    def test_names(self):
        for name, told in (("a", True), ("zzzzzzzz", True), ("zzzzzzzzz", False), ("", False), ("A", False),
                           ("a1", False), ("a ", False), (1, False), (None, False), (("a",), False), (b"a", False)):
            self.check((2, ((name, 1, 1, ()),), ()), told)
            self.check((2, (), ((name, 9, 1),)), told)

    def test_names_unlike_and_rising(self):
        self.check((2, jobs_named("a", "b"), tools_named("c", "d")), True)
        self.check((2, jobs_named("c", "d"), tools_named("a", "b")), True)
        self.check((2, jobs_named("a", "c"), tools_named("b", "d")), True)
        self.check((2, jobs_named("b", "a"), ()), False)
        self.check((2, (), tools_named("b", "a")), False)
        self.check((2, jobs_named("a", "a"), ()), False)
        self.check((2, (), tools_named("a", "a")), False)
        self.check((2, jobs_named("a"), tools_named("a")), False)
        self.check((2, jobs_named("a", "b"), tools_named("b", "c")), False)
        self.check((2, jobs_named("a", "c"), tools_named("a", "c")), False)

    def test_bounds_of_numbers(self):
        for number, told in ((0, True), (99, True), (-1, False), (100, False), (True, False), (False, False),
                             ("1", False), (None, False), ((1, 1), False)):
            self.check(job(gain=number), told)
            self.check(job(grows=number), told)
            self.check(tool(cost=999, falls=number), told)

    def test_bounds_of_costs(self):
        for top in (1, 2, 9):
            for falls in (0, 1, 50, 99):
                least = falls * top
                for cost, told in ((least, True), (least - 1, False), (999, True), (1000, False)):
                    self.check(tool(cost=cost, falls=falls, top=top), told)
        for cost in (True, "9", None, (9,)):
            self.check(tool(cost=cost), False)
        self.check(tool(cost=False, falls=0), False)

    def test_wants(self):
        tools = tools_named("s", "t", "u")
        for wants, told in (((), True), (("s",), True), (("s", "t", "u"), True), (("s", "u"), True),
                            (("t", "s"), False), (("s", "s"), False), (("v",), False), (("a",), False), (("b",), False),
                            (["s"], False), ("s", False), (None, False), ({"s": 1}, False), ((("s",),), False),
                            (("s", 1), False), ((None,), False), (("",), False), (("S",), False)):
            self.check((2, (("a", 1, 1, wants), ("b", 1, 1, ())), tools), told)
            self.check((2, (("a", 1, 1, ("s",)), ("b", 1, 1, wants)), tools), told)

    def test_wants_in_all(self):
        # Eight names have no more than sixteen wants, where four jobs want four tools each.
        for many in range(1, 8):
            names, rest = "abcdefgh"[:many], "abcdefgh"[many:]
            self.check((2, tuple((name, 1, 1, tuple(rest)) for name in names), tools_named(*rest)), True)
        every = tuple("stuvw")
        self.check((2, tuple((name, 1, 1, every[:4]) for name in "abcd"), tools_named(*every)), False)
        self.check((2, tuple((name, 1, 1, every) for name in "abcd"), tools_named(*every)), False)

    def test_lists_and_lengths(self):
        self.check([2, (), tools_named("a")], False)
        self.check((2, [], tools_named("a")), False)
        self.check((2, jobs_named("a"), []), False)
        self.check((2, [("a", 1, 1, ())], ()), False)
        self.check((2, (["a", 1, 1, ()],), ()), False)
        self.check((2, (), (["a", 9, 1],)), False)
        self.check((2, (("a", 1, 1),), ()), False)
        self.check((2, (("a", 1, 1, (), ()),), ()), False)
        self.check((2, (), (("a", 9),)), False)
        self.check((2, (), (("a", 9, 1, ()),)), False)
        self.check((2, jobs_named("a")), False)
        self.check((2, jobs_named("a"), (), ()), False)
        self.check((2, {}, tools_named("a")), False)
        self.check((2, None, tools_named("a")), False)

    def test_things_of_any_kind(self):
        for at, thing in enumerate(odd_things()):
            with self.subTest(at=at):
                for odd in (thing, house(jobs=(thing,)), house(tools=(thing,)), house(jobs=(*house()[1], thing))):
                    self.assertIs(is_house(odd), False)
        for at, thing in enumerate(odd_but_texts()):
            with self.subTest(at=at):
                self.assertIs(is_house(job(name=thing)), False)
                self.assertIs(is_house(house(tools=((thing, 9, 1),))), False)
                self.assertIs(is_house(job(wants=(thing,))), False)
        for at, thing in enumerate(odd_but_numbers()):
            with self.subTest(at=at):
                for odd in (house(top=thing), job(gain=thing), job(grows=thing), tool(cost=thing), tool(falls=thing)):
                    self.assertIs(is_house(odd), False)

    def test_any_kind_in_two_of_one_name(self):
        # Whoever sorts these by more than their names compares what can't be compared.
        for at, thing in enumerate(odd_things()):
            with self.subTest(at=at):
                self.assertIs(is_house((2, (("a", thing, 1, ()),), (("a", thing, 1),))), False)
                self.assertIs(is_house((2, (("a", thing, 1, ()), ("a", 1, 1, ())), ())), False)


class TestBestJobs(unittest.TestCase):
    def test_as_by_going_through_all_sets_of_jobs(self):
        for thing in HOUSES:
            for price in prices_of(thing):
                with self.subTest(house=thing, price=price):
                    most, least = plain_best(thing, as_number(price))
                    self.assertEqual(best_jobs(thing, price), (as_told(most), least))

    def test_its_kind(self):
        for thing in HOUSES[:30]:
            earns, done = told = best_jobs(thing, (1, 2))
            self.assertIsInstance(told, tuple)
            self.assertIs(is_fraction(earns), True)
            self.assertIsInstance(done, tuple)

    def test_told_by_hand(self):
        self.assertEqual(best_jobs(SHARED, (0, 1)), ((0, 1), ()))
        self.assertEqual(best_jobs(SHARED, (1, 1)), ((0, 1), ()))
        self.assertEqual(best_jobs(SHARED, (4, 3)), ((1, 1), ("bake", "roast")))
        self.assertEqual(best_jobs(SHARED, (4, 1)), ((9, 1), ("bake", "roast")))
        self.assertEqual(best_jobs(JOB_ALONE, (0, 1)), ((0, 1), ()))
        self.assertEqual(best_jobs(JOB_ALONE, (1, 2)), ((1, 2), ("a",)))
        self.assertEqual(best_jobs(IDLE, (0, 1)), ((0, 1), ()))
        self.assertEqual(best_jobs(IDLE, (3, 1)), ((15, 1), ("c",)))
        self.assertEqual(best_jobs(FULL_HOUSE, (9, 1)), ((3528, 1), ("ja", "jb", "jc", "jd")))
        self.assertEqual(best_jobs(FULL_HOUSE, (0, 1)), ((0, 1), ()))

    def test_without_jobs_and_without_tools(self):
        for price in ((0, 1), (1, 1), (2, 1)):
            self.assertEqual(best_jobs(TOOL_ALONE, price), ((0, 1), ()))
        many = (3, tuple((name, gain, 1, ()) for gain, name in enumerate("abcdefgh")), ())
        self.assertEqual(best_jobs(many, (0, 1)), ((28, 1), tuple("bcdefgh")))
        self.assertEqual(best_jobs(many, (3, 1)), ((52, 1), tuple("abcdefgh")))

    def test_a_great_job_and_a_dear_tool(self):
        # The tie from a job to its tool must never be the bottleneck.
        for cost in (989, 990, 991, 999):
            thing = (9, (("a", 99, 99, ("t",)),), (("t", cost, 0),))
            earns = max(0, 990 - cost)
            self.assertEqual(best_jobs(thing, (9, 1)), ((earns, 1), ("a",) if earns else ()))

    def test_what_is_no_price(self):
        for thing in (SHARED, JOB_ALONE, TOOL_ALONE, FULL_HOUSE):
            for at, price in enumerate(no_prices(thing)):
                with self.subTest(at=at), self.assertRaises(NoPrice):
                    best_jobs(thing, price)


class TestJobsStair(unittest.TestCase):
    def check(self, thing):
        """That the worth bends just at the breaks, and between them the least jobs are those told."""
        dones, breaks = jobs_stair(thing)
        ends = [Fraction(0), *[as_number(at) for at in breaks], Fraction(thing[0])]
        self.assertEqual(len(dones), len(breaks) + 1)
        self.assertEqual(ends, sorted(set(ends)))
        lines = [line_earned(thing, done) for done in sets_of_jobs(thing)]
        for low, high, done in zip(ends, ends[1:], dones):
            base, lean = line_earned(thing, done)
            for at in (low, high):
                self.assertEqual(max(one + by * at for one, by in lines), base + lean * at)
            for at in (low + (high - low) / 1000, (low + high) / 2, high - (high - low) / 1000):
                self.assertEqual(plain_best(thing, at), (base + lean * at, done))
        slopes = [line_earned(thing, done)[1] for done in dones]
        self.assertEqual(slopes, sorted(set(slopes)))

    def test_as_by_going_through_all_sets_of_jobs(self):
        for thing in HOUSES:
            with self.subTest(house=thing):
                self.check(thing)

    def test_its_kind(self):
        for thing in HOUSES[:30]:
            told = jobs_stair(thing)
            self.assertIsInstance(told, tuple)
            dones, breaks = told
            self.assertIsInstance(dones, list)
            self.assertIsInstance(breaks, list)
            for done in dones:
                self.assertIsInstance(done, tuple)
            for at in breaks:
                self.assertIs(is_fraction(at), True)

    def test_told_by_hand(self):
        self.assertEqual(jobs_stair(SHARED), ([(), ("bake", "roast")], [(1, 1)]))
        self.assertEqual(jobs_stair(TOOL_ALONE), ([()], []))
        self.assertEqual(jobs_stair(JOB_ALONE), ([("a",)], []))
        self.assertEqual(jobs_stair(IDLE), ([(), ("c",)], [(1, 2)]))
        self.assertEqual(jobs_stair((3, (("a", 2, 0, ("t",)),), (("t", 6, 2),))), ([(), ("a",)], [(2, 1)]))

    def test_bends_at_0_and_at_top_are_no_breaks(self):
        self.assertEqual(jobs_stair((2, (("a", 4, 1, ("t",)),), (("t", 4, 0),))), ([("a",)], []))
        self.assertEqual(jobs_stair((2, (("a", 0, 1, ("t",)),), (("t", 2, 0),))), ([()], []))

    def test_many_breaks(self):
        self.assertGreaterEqual(len(jobs_stair(STEPS)[1]), 3)
        free = (9, tuple((name, 0, 1, (want,)) for name, want in zip("abcd", "wxyz")),
                tuple((name, cost, 0) for cost, name in enumerate("wxyz", start=1)))
        self.assertEqual(jobs_stair(free), ([(), ("a",), ("a", "b"), ("a", "b", "c"), ("a", "b", "c", "d")],
                                            [(1, 1), (2, 1), (3, 1), (4, 1)]))

    def test_new_lists_each_time(self):
        first = jobs_stair(STEPS)
        kept = (list(first[0]), list(first[1]))
        first[0].clear()
        first[1].append(None)
        self.assertEqual(jobs_stair(STEPS), kept)


if __name__ == "__main__":
    unittest.main()
