"""The checker: [25], what [3] says of it, and [2]."""

import ast
import unittest
from pathlib import Path

import cutstairs.checker
from cutstairs.checker import holds
from cutstairs.papers import (paper_cuts, paper_densest, paper_earns, paper_goes, paper_least, paper_most, paper_shares,
                              paper_stair, paper_thickest, paper_worth)
from graph_samples import APART, KEPT_GRAPHS, ONE, TAIL, TIED_TWO, TOUCHING, TWO, graph, thrown_graphs
from house_samples import IDLE, KEPT_HOUSES, SHARED, WOVEN, sets_of_jobs, thrown_houses
from plain_checker import TRUTHS, plain_holds
from samples import (EVEN, KEPT, LONE, PLAIN, RING, STAIRED, Odd, as_number, as_told, odd_things, plain_cuts,
                     plain_least, plain_lines, prices_of, sharing, small_webs, thrown_webs)

# All that the spring can lead goes always; up to a price; at 0 alone; never.
GOES_ALWAYS = (2, (("a", 1, 1, 9, 0),), ())
GOES_AT_0 = (2, (("a", 1, 1, 1, 0), ("b", 0, 0, 3, 1)), ())
GOES_NEVER = (2, (("a", 5, 0, 1, 0), ("b", 0, 1, 3, 1)), (("a", "b", 2),))
SHARING = (2, (("a", 0, 1, 1, 0), ("b", 0, 2, 3, 0), ("c", 0, 1, 9, 0)), (("a", "b", 5), ("b", "a", 1)))
SHARING_ALIKE = (1, (("a", 0, 1, 0, 0), ("b", 0, 1, 1, 0)), (("a", "b", 1),))


def true_pairs():
    """Claims with right papers, of every word, of small things."""
    told = []
    for web in (PLAIN, EVEN):
        for price in ((0, 1), (1, 1), (3, 2)):
            told += [ask(web, price) for ask in (paper_worth, paper_least, paper_most, paper_cuts)]
        told.append(paper_stair(web))
    told += [paper_worth(RING, (1, 1)), paper_most(LONE, (1, 2)), paper_cuts(LONE, (1, 2)), paper_stair(LONE)]
    told += [paper_goes(web) for web in (PLAIN, GOES_ALWAYS, GOES_AT_0, GOES_NEVER, LONE)]
    told += [paper_shares(SHARING), paper_shares(SHARING_ALIKE)]
    told += [paper_densest(thing) for thing in (ONE, TIED_TWO, TOUCHING, graph("abcd", ["ab", "ac", "bc"]))]
    told += [paper_thickest(thing) for thing in (TWO, TIED_TWO, graph("abcd", ["ab", "ac", "bc"]))]
    told += [paper_earns(SHARED, (1, 2)), paper_earns(SHARED, (2, 1)), paper_earns(IDLE, (1, 1))]
    return told


def puts_in_its_place(thing):
    """What may stand for a thing, of its kind and of others."""
    if isinstance(thing, tuple):
        told = [list(thing), thing[1:], thing[:-1], thing + (None,), thing + thing[-1:], thing[::-1], (thing,), None, ()]
        if len(thing) == 2 and all(isinstance(part, int) for part in thing):
            told += [(2 * thing[0], 2 * thing[1]), (-thing[0], -thing[1]), (thing[0] + thing[1], thing[1]),
                     (2 * thing[0] + 1, 2 * thing[1])]
        return told
    if isinstance(thing, int):
        return [thing + 1, thing - 1, -thing, str(thing), None, (thing,), [thing], bool(thing)]
    if isinstance(thing, str):
        return [thing + "z", "", "a", "b", "worth", "least", "most", thing.upper(), None, 1, (thing,), list(thing)]
    return [(), False, 0, "", ("a",)]


def put_otherwise(thing):
    """The thing with one thing in it, or all of it, put otherwise, at every place."""
    yield from puts_in_its_place(thing)
    if isinstance(thing, tuple):
        for at, part in enumerate(thing):
            for other in put_otherwise(part):
                yield (*thing[:at], other, *thing[at + 1:])


def with_odd_things(thing, odd, depth):
    """The thing with an odd thing at every place that is no deeper."""
    yield odd
    if isinstance(thing, tuple) and depth > 0:
        for at, part in enumerate(thing):
            for other in with_odd_things(part, odd, depth - 1):
                yield (*thing[:at], other, *thing[at + 1:])


def turned(web):
    """The web with names that rise the other way, so that roads through it are found in another order."""
    names = [place[0] for place in web[1]]
    other = dict(zip(names, reversed(names)))
    places = sorted((other[name], *rest) for name, *rest in web[1])
    ties = sorted((other[one], other[two], size) for one, two, size in web[2])
    return (web[0], tuple(places), tuple(ties)), other


def other_stream(web, price):
    """A greatest stream that was found in the turned web."""
    mirrored, other = turned(web)
    into, through, out = paper_least(mirrored, price)[1]
    by_ends = {(one, two): part for (one, two, size), part in zip(mirrored[2], through)}
    return (into[::-1], tuple(by_ends[other[one], other[two]] for one, two, size in web[2]), out[::-1])


def amid(one, other):
    """The stream, or leans, just half-way between two."""
    if isinstance(one[0], int):
        return as_told((as_number(one) + as_number(other)) / 2)
    return tuple(amid(*both) if both[0] else () for both in zip(one, other))


def right_streams(web, price):
    """Three greatest streams, perhaps the same."""
    one, other = paper_least(web, price)[1], other_stream(web, price)
    return [one, other, amid(one, other)]


WEBS = KEPT + STAIRED + tuple(thrown_webs(71, 40)) + tuple(small_webs(72, 60))


class TestByHand(unittest.TestCase):
    """Claims and papers that are written out."""

    pipe = (2, (("p", 1, 1, 4, 1),), ())
    two = (((2, 1),), (), ((2, 1),))

    def check(self, claim, paper, told=True):
        with self.subTest(claim=claim, paper=paper):
            self.assertIs(holds(claim, paper), told)

    def test_worth(self):
        self.check(("worth", self.pipe, (1, 1), (2, 1)), (self.two, ()))
        self.check(("worth", self.pipe, (1, 1), (2, 1)), (self.two, ("p",)), False)
        self.check(("worth", self.pipe, (1, 1), (1, 1)), ((((1, 1),), (), ((1, 1),)), ()), False)
        self.check(("worth", self.pipe, (1, 1), (3, 1)), ((((3, 1),), (), ((3, 1),)), ("p",)), False)

    def test_least_and_most(self):
        break_stream = (((5, 2),), (), ((5, 2),))
        self.check(("least", self.pipe, (3, 2), ()), break_stream)
        self.check(("most", self.pipe, (3, 2), ("p",)), break_stream)
        self.check(("least", self.pipe, (3, 2), ("p",)), break_stream, False)
        self.check(("most", self.pipe, (3, 2), ()), break_stream, False)
        self.check(("cuts", self.pipe, (3, 2), 2), break_stream)
        for many in (0, 1, 3, (2, 1), "2"):
            self.check(("cuts", self.pipe, (3, 2), many), break_stream, False)
        # What isn't a greatest stream proves nothing, though it has the same places led to.
        self.check(("least", self.pipe, (3, 2), ("p",)), self.two, False)
        for many in (0, 1, 2):
            self.check(("cuts", self.pipe, (3, 2), many), self.two, False)

    def test_one_of_many_cuts_is_not_true_for_1(self):
        stream = self.two
        self.check(("cuts", self.pipe, (1, 1), 1), stream)
        self.check(("cuts", self.pipe, (1, 1), True), stream, False)

    def test_stair(self):
        def led(worth):
            return ((worth,), (), (worth,))
        ends = (led((1, 1)), led((5, 2)), led((2, 1)))
        middles = (led((7, 4)), led((9, 4)))
        bits = (((), (), 1, 1), (("p",), ("p",), 4, -1))
        self.check(("stair", self.pipe, bits, ((3, 2),)), (ends, middles))
        self.check(("stair", self.pipe, bits, ((3, 2),)), (ends, middles[::-1]), False)
        self.check(("stair", self.pipe, bits[::-1], ((3, 2),)), (ends, middles), False)
        self.check(("stair", self.pipe, bits[:1], ()), ((ends[0], ends[2]), middles[:1]), False)
        # A break where nothing bends.
        one = (("p", 1, 1, 9, 0),)
        self.check(("stair", (2, one, ()), (((), (), 1, 1), ((), (), 1, 1)), ((1, 1),)),
                   ((led((1, 1)), led((2, 1)), led((3, 1))), (led((3, 2)), led((5, 2)))), False)
        self.check(("stair", (2, one, ()), (((), (), 1, 1),), ()), ((led((1, 1)), led((3, 1))), (led((2, 1)),)))

    def test_until_and_never(self):
        self.check(("until", self.pipe, (3, 2)), ((((5, 2),), (), ((5, 2),)), ("p",)))
        self.check(("until", self.pipe, (1, 1)), (self.two, ("p",)), False)
        self.check(("until", self.pipe, (3, 2)), ((((5, 2),), (), ((5, 2),)), None), False)
        self.check(("until", self.pipe, (3, 2)), ((((5, 2),), (), ((5, 2),)), ()), False)
        full = (((3, 1),), (), ((3, 1),))
        self.check(("until", GOES_ALWAYS, (2, 1)), (full, None))
        for cut in ((), ("a",), False, 0, ""):
            self.check(("until", GOES_ALWAYS, (2, 1)), (full, cut), False)
        # As dear as () at TOP and of lesser LEAN: all goes at TOP, where None is told.
        just = (1, (("a", 0, 2, 2, 0),), ())
        self.check(("until", just, (1, 1)), ((((2, 1),), (), ((2, 1),)), None))
        self.check(("until", just, (1, 1)), ((((2, 1),), (), ((2, 1),)), ("a",)), False)
        self.check(("never", GOES_NEVER), ("a", "b"))
        self.check(("never", GOES_NEVER), ("a",))
        self.check(("never", GOES_NEVER), (), False)
        self.check(("never", GOES_NEVER), (("a",),), False)
        self.check(("never", self.pipe), ("p",), False)

    def test_shares(self):
        stream = (((0, 1), (1, 1)), ((0, 1),), ((0, 1), (1, 1)))
        level = (((1, 2), (1, 2)), ((1, 2),), ((0, 1), (1, 1)))
        self.check(("shares", SHARING_ALIKE, ((1, 2), (1, 2))), level)
        # All goes, but a has less, and could have more of what b has.
        self.check(("shares", SHARING_ALIKE, ((0, 1), (1, 1))), stream, False)
        # Nothing goes, though something could go to the drain.
        none = (((0, 1),) * 2, ((0, 1),), ((0, 1),) * 2)
        self.check(("shares", SHARING_ALIKE, ((0, 1), (0, 1))), none, False)
        lone = (3, (("a", 0, 2, 999, 0),), ())
        self.check(("shares", lone, ((6, 1),)), (((6, 1),), (), ((6, 1),)))
        self.check(("shares", lone, ((5, 1),)), (((5, 1),), (), ((5, 1),)), False)
        for place in (("a", 1, 2, 999, 0), ("a", 0, 0, 999, 0), ("a", 0, 2, 999, 1)):
            worth = (6 + place[1] if place[2] else 0, 1)
            self.check(("shares", (3, (place,), ()), (worth,)), ((worth,), (), (worth,)), False)

    def test_densest_and_thickest(self):
        triangle = graph("abc", ["ab", "ac", "bc"])
        self.check(("densest", triangle, (1, 1)), (("a", "b", "c"), ((1, 1), (0, 1), (1, 1))))
        self.check(("densest", triangle, (1, 1)), (("a", "b", "c"), ((1, 2), (1, 2), (1, 2))))
        self.check(("densest", triangle, (1, 1)), (("a", "b", "c"), ((1, 1), (1, 1), (1, 1))), False)
        self.check(("densest", triangle, (1, 2)), (("a", "b"), ((1, 2), (1, 2), (1, 2))), False)
        leans = (((0, 1), (0, 1), (1, 2)), ((1, 1), (1, 2), (0, 1)), ((1, 2), (1, 1), (1, 1)))
        self.check(("thickest", triangle, (3, 2)), (("a", "b", "c"), leans))
        self.check(("thickest", triangle, (3, 2)), (("a", "b", "c"), leans[::-1]), False)
        self.check(("thickest", triangle, (3, 2)), (("a", "b", "c"), leans[:2]), False)
        self.check(("densest", ONE, (0, 1)), (("a",), ()))
        self.check(("densest", ONE, (0, 1)), ((), ()), False)
        self.check(("thickest", ONE, (0, 1)), (("a",), ((),)), False)
        self.check(("thickest", TWO, (0, 1)), (("a", "b"), ((), ())))
        self.check(("thickest", TWO, (0, 1)), (("a",), ((), ())), False)

    def test_earns(self):
        house = (2, (("j", 3, 1, ("t",)),), (("t", 4, 1),))
        led = (((3, 1), (0, 1)), ((3, 1),), ((0, 1), (3, 1)))
        self.check(("earns", house, (1, 1), (1, 1)), (("j",), led))
        self.check(("earns", house, (1, 1), (0, 1)), ((), led), False)
        self.check(("earns", house, (1, 1), (1, 1)), ((), led), False)
        self.check(("earns", house, (1, 1), (1, 1)), (("j", "t"), led), False)
        self.check(("earns", house, (1, 1), (1, 1)), (("t",), led), False)
        less = (((2, 1), (0, 1)), ((2, 1),), ((0, 1), (2, 1)))
        self.check(("earns", house, (1, 1), (2, 1)), (("j",), less), False)
        self.check(("earns", house, (1, 1), (1, 1)), (("j",), less), False)


class TestRightPapers(unittest.TestCase):
    def check(self, claim, paper):
        with self.subTest(claim=claim, paper=paper):
            self.assertIs(plain_holds(claim, paper), True)
            self.assertIs(holds(claim, paper), True)

    def test_other_greatest_streams(self):
        unlike = 0
        for web in WEBS:
            for price in prices_of(web)[:4]:
                worth, low, high = plain_least(web, price)
                streams = right_streams(web, price)
                unlike += len(set(streams)) > 1
                for stream in streams:
                    self.check(("least", web, price, low), stream)
                    self.check(("most", web, price, high), stream)
                    self.check(("worth", web, price, as_told(worth)), (stream, low))
        self.assertGreater(unlike, 60)

    def test_how_many_cuts(self):
        for web in WEBS[:50]:
            claim, stream = paper_cuts(web, (1, 1))
            for other in right_streams(web, (1, 1)):
                self.check(claim, other)

    def test_all_least_cuts(self):
        for web in (EVEN, PLAIN, LONE, *small_webs(73, 20)):
            for price in ((0, 1), (1, 1)):
                claim, (stream, cut) = paper_worth(web, price)
                for other in plain_cuts(web):
                    least = plain_holds(claim, (stream, other))
                    self.assertIs(holds(claim, (stream, other)), least)

    def test_other_streams_of_a_stair(self):
        for web in WEBS[:60]:
            claim, (ends, middles) = paper_stair(web)
            marks = [(0, 1), *claim[3], (web[0], 1)]
            halves = [as_told((as_number(one) + as_number(other)) / 2) for one, other in zip(marks, marks[1:])]
            self.check(claim, (tuple(other_stream(web, at) for at in marks), middles))
            self.check(claim, (ends, tuple(other_stream(web, at) for at in halves)))

    def test_other_cuts_of_until_and_never(self):
        for web in (GOES_AT_0, GOES_NEVER, *WEBS):
            claim, paper = paper_goes(web)
            lines = plain_lines(web)
            for cut in plain_cuts(web):
                if claim[0] == "never":
                    told = lines[cut][0] < lines[()][0]
                    self.assertIs(holds(claim, cut), told)
                elif claim[2] != (web[0], 1):
                    at = as_number(claim[2])
                    base, lean = lines[cut]
                    alike = base + lean * at == lines[()][0] + lines[()][1] * at
                    told = alike and lean < lines[()][1]
                    self.assertIs(holds(claim, (paper[0], cut)), told)

    def test_other_streams_of_shares(self):
        # Something may go round from a to b and back, too, as much as the lesser tie holds.
        claim, (into, through, out) = paper_shares(SHARING)
        round_by = [as_number(part) - min(as_number(part) for part in through) for part in through]
        for more in ((0, 1), (1, 2), (1, 1)):
            self.check(claim, (into, tuple(as_told(part + as_number(more)) for part in round_by), out))
        too_much = (into, tuple(as_told(part + as_number((3, 2))) for part in round_by), out)
        self.assertIs(holds(claim, too_much), False)

    def test_other_leans_and_parts(self):
        for thing in (*KEPT_GRAPHS, *thrown_graphs(74, 30)):
            claim, (part, leans) = paper_densest(thing)
            for other in sets_of_jobs((1, [(name,) for name in thing[0]])):
                self.assertIs(holds(claim, (other, leans)), plain_holds(claim, (other, leans)))
            if len(thing[0]) > 1:
                claim, (part, rows) = paper_thickest(thing)
                for other in sets_of_jobs((1, [(name,) for name in thing[0]])):
                    self.assertIs(holds(claim, (other, rows)), plain_holds(claim, (other, rows)))
        # Round a ring to the left, to the right, and half and half.
        ring = graph("abcd", ["ab", "bc", "cd", "ad"])
        for leans in (((1, 1), (0, 1), (1, 1), (1, 1)), ((0, 1), (1, 1), (0, 1), (0, 1)), ((1, 2),) * 4):
            self.check(("densest", ring, (1, 1)), (tuple("abcd"), leans))
        self.check(paper_densest(APART)[0], (("a", "b", "c"), paper_densest(APART)[1][1]))
        self.check(paper_densest(APART)[0], (("d", "e", "f"), paper_densest(APART)[1][1]))

    def test_other_jobs_that_earn_as_much(self):
        for house in (*KEPT_HOUSES, *thrown_houses(75, 30)):
            for price in ((0, 1), (1, 1), (house[0], 1)):
                claim, (done, stream) = paper_earns(house, price)
                for other in sets_of_jobs(house):
                    self.assertIs(holds(claim, (other, stream)), plain_holds(claim, (other, stream)))
        # A job that earns nothing may be done or not.
        claim, (done, stream) = paper_earns(IDLE, (0, 1))
        self.check(claim, (("a",), stream))
        self.check(claim, (("a", "b"), stream))


class TestPutOtherwise(unittest.TestCase):
    def test_every_word_is_tried(self):
        self.assertEqual({claim[0] for claim, paper in true_pairs()}, set(TRUTHS))

    def test_as_told(self):
        for claim, paper in true_pairs():
            self.assertIs(plain_holds(claim, paper), True)
            self.assertIs(holds(claim, paper), True)

    def test_one_thing_in_the_claim_put_otherwise(self):
        for claim, paper in true_pairs():
            for other in put_otherwise(claim):
                with self.subTest(other=other, paper=paper):
                    self.assertIs(holds(other, paper), plain_holds(other, paper))

    def test_one_thing_in_the_paper_put_otherwise(self):
        for claim, paper in true_pairs():
            for other in put_otherwise(paper):
                with self.subTest(claim=claim, other=other):
                    self.assertIs(holds(claim, other), plain_holds(claim, other))

    def test_papers_of_other_claims(self):
        pairs = true_pairs()
        for claim, paper in pairs:
            for other, other_paper in pairs:
                with self.subTest(claim=claim, paper=other_paper):
                    self.assertIs(holds(claim, other_paper), plain_holds(claim, other_paper))

    def test_other_words(self):
        for claim, paper in true_pairs():
            for word in (*TRUTHS, "", "Worth", "worth ", "cut", "goes", "house"):
                other = (word, *claim[1:])
                self.assertIs(holds(other, paper), plain_holds(other, paper))

    def test_at_other_prices(self):
        # The same paper at a price beside, where the same cuts are least.
        for web in (PLAIN, RING, EVEN):
            for price in prices_of(web):
                for ask in (paper_worth, paper_least, paper_most, paper_cuts):
                    claim, paper = ask(web, price)
                    for other in prices_of(web):
                        moved = (*claim[:2], other, *claim[3:])
                        self.assertIs(holds(moved, paper), plain_holds(moved, paper))


class TestAnyKind(unittest.TestCase):
    def test_odd_claims_and_papers(self):
        pairs = true_pairs()
        for at, thing in enumerate(odd_things()):
            with self.subTest(at=at):
                self.assertIs(holds(thing, thing), False)
                for claim, paper in pairs:
                    self.assertIs(holds(thing, paper), False)
                    self.assertIs(holds(claim, thing), plain_holds(claim, thing))

    def test_odd_things_at_every_place(self):
        for claim, paper in true_pairs()[::2]:
            for at, thing in enumerate(odd_things()):
                with self.subTest(at=at, word=claim[0]):
                    for other in with_odd_things(claim, thing, 2):
                        self.assertIs(holds(other, paper), plain_holds(other, paper))
                    for other in with_odd_things(paper, thing, 2):
                        self.assertIs(holds(claim, other), plain_holds(claim, other))

    def test_odd_things_deeper(self):
        for claim, paper in true_pairs()[1::3]:
            for thing in (None, True, False, 1, "a", [], {}, (), Odd(), (1, 2), ("a",), 10 ** 30, b"a"):
                for other in with_odd_things(claim, thing, 5):
                    self.assertIs(holds(other, paper), plain_holds(other, paper))
                for other in with_odd_things(paper, thing, 5):
                    self.assertIs(holds(claim, other), plain_holds(claim, other))

    def test_short_and_long_claims(self):
        for claim, paper in true_pairs():
            for many in range(len(claim)):
                self.assertIs(holds(claim[:many], paper), False)
                self.assertIs(holds(claim[:many], None), False)
            for more in (None, (), 0, claim[-1]):
                self.assertIs(holds((*claim, more), paper), False)
            self.assertIs(holds(list(claim), paper), False)
            self.assertIs(holds((), paper), False)

    def test_words_of_other_kinds(self):
        for at, thing in enumerate(odd_things()):
            with self.subTest(at=at):
                self.assertIs(holds((thing,), None), False)
                self.assertIs(holds((thing, PLAIN, (1, 1), (6, 1)), ()), False)

    def test_what_is_handed_in_stays(self):
        claim = ["worth", [3], {"a": [1]}]
        paper = ([1], {"b": [2]})
        holds(claim, paper)
        holds(tuple(claim), paper)
        self.assertEqual((claim, paper), (["worth", [3], {"a": [1]}], ([1], {"b": [2]})))


class TestTruth(unittest.TestCase):
    """Whatever it takes is true, and each true claim is taken with its paper."""

    def test_webs_and_houses_and_graphs(self):
        for web in WEBS:
            claim, paper = paper_stair(web)
            self.assertIs(holds(claim, paper), True)
            bits, breaks = claim[2:]
            for at in range(len(breaks)):
                # A stair that leaves a bit out isn't taken, whatever is left out of the paper.
                fewer = (*claim[:2], bits[:at] + bits[at + 1:], breaks[:at] + breaks[at + 1:])
                ends, middles = paper
                self.assertIs(holds(fewer, (ends[:at + 1] + ends[at + 2:], middles[:at] + middles[at + 1:])), False)
        for thing in (TAIL, *thrown_graphs(76, 20)):
            claim, (part, leans) = paper_densest(thing)
            for top in range(-1, 4):
                other = ("densest", thing, as_told(as_number(claim[2]) + top))
                self.assertIs(holds(other, (part, leans)), top == 0)
        claim, (done, stream) = paper_earns(WOVEN, (3, 1))
        for more in range(-2, 3):
            other = (*claim[:3], as_told(as_number(claim[3]) + more))
            self.assertIs(holds(other, (done, stream)), more == 0)

    def test_other_cuts_of_the_same_line_in_a_stair(self):
        unlike = 0
        for web in (LONE, EVEN, *WEBS):
            claim, paper = paper_stair(web)
            bits = claim[2]
            lines = plain_lines(web)
            for at, bit in enumerate(bits):
                alike = [cut for cut in lines if lines[cut] == bit[2:]]
                unlike += len(alike) > 1
                for field in (0, 1):
                    for cut in alike:
                        other = (*bit[:field], cut, *bit[field + 1:])
                        put = (*claim[:2], (*bits[:at], other, *bits[at + 1:]), claim[3])
                        self.assertIs(holds(put, paper), cut == bit[field])
        self.assertGreater(unlike, 10)

    def test_shares_that_are_not_level(self):
        # Half of the level shares goes, too, by half of the stream.
        for web in WEBS:
            web = sharing(web)
            claim, stream = paper_shares(web)
            self.assertIs(holds(claim, stream), True)
            half = tuple(tuple(as_told(as_number(part) / 2) for part in row) for row in stream)
            worthless = all(share == (0, 1) for share in claim[2])
            self.assertIs(holds((*claim[:2], half[0]), half), worthless)
            # What a greatest stream at TOP leads in goes, but is seldom level.
            other = paper_least(web, (web[0], 1))[1]
            self.assertIs(holds((*claim[:2], other[0]), other), other[0] == claim[2])


class TestImports(unittest.TestCase):
    def test_the_first_two_stages_alone(self):
        tree = ast.parse(Path(cutstairs.checker.__file__).read_text("utf-8"))
        asked = {node.module for node in ast.walk(tree) if isinstance(node, ast.ImportFrom)}
        self.assertLessEqual(asked, {"cutstairs.errors", "cutstairs.fractions", "cutstairs.webs", "cutstairs.webtexts",
                                     "cutstairs.cuts"})


if __name__ == "__main__":
    unittest.main()
