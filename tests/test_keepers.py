"""Webs kept: [22], and [2] of it."""

import unittest

from cutstairs.errors import NoName, NoPlace, NoTie, NoTop, NoUndo, NoWeb
from cutstairs.keepers import Keeper
from cutstairs.stairs import stair_of
from cutstairs.webs import is_web
from samples import (CHAIN, FULL, KEPT, NAMES, PLAIN, RING, Dice, Odd, odd_but_numbers, odd_but_texts, odd_things,
                     plain_stair, thrown_webs)

# As many ties as there can be, and one more pair that has none.
SIXTEEN = sorted((one, other) for one in "abcde" for other in "abcde" if one != other)[:16]


def keeper_of(web):
    """A keeper into which a web was put, place by place and tie by tie."""
    keeper = Keeper(web[0])
    for place in web[1]:
        keeper.put(place)
    for one, other, size in web[2]:
        keeper.tie(one, other, size)
    return keeper


def told(keeper):
    """The web that a keeper tells, or None without places."""
    try:
        return keeper.web()
    except NoWeb:
        return None


def no_tops():
    return odd_but_numbers() + [0, 10, -1, 10 ** 30, "1", (1,), [1]]


class Reckoned:
    """What a keeper should keep, by dicts, with copies of them for each deed."""

    def __init__(self, top):
        self.top, self.places, self.ties, self.past = top, {}, {}, []

    def copy(self):
        return (self.top, dict(self.places), dict(self.ties))

    def web(self):
        if not self.places:
            return None
        return (self.top, tuple((name, *self.places[name]) for name in sorted(self.places)),
                tuple((*ends, self.ties[ends]) for ends in sorted(self.ties)))

    def refusal(self, deed, rest):
        """The refusal of a deed with things of the right kinds, or None."""
        if deed == "put":
            name, a, b, c, d = rest[0]
            fits = max(a, b, d) <= 99 and d * self.top <= c <= 999
            return None if fits and name not in self.places and len(self.places) < 8 else NoPlace
        if deed == "take":
            return None if rest[0] in self.places else NoName
        if deed == "tie":
            one, other, size = rest
            stand = one in self.places and other in self.places and one != other
            free = (one, other) not in self.ties and len(self.ties) < 16
            return None if stand and free and 1 <= size <= 999 else NoTie
        if deed == "untie":
            return None if tuple(rest) in self.ties else NoTie
        if deed == "set_top":
            fits = 1 <= rest[0] <= 9 and all(d * rest[0] <= c for a, b, c, d in self.places.values())
            return None if fits else NoTop
        return None if self.past else NoUndo

    def do(self, deed, rest):
        if deed == "undo":
            self.top, self.places, self.ties = self.past.pop()
            return
        self.past.append(self.copy())
        if deed == "put":
            self.places[rest[0][0]] = rest[0][1:]
        elif deed == "take":
            del self.places[rest[0]]
            self.ties = {ends: size for ends, size in self.ties.items() if rest[0] not in ends}
        elif deed == "tie":
            self.ties[rest[0], rest[1]] = rest[2]
        elif deed == "untie":
            del self.ties[tuple(rest)]
        else:
            self.top = rest[0]


def thrown_deed(dice, names):
    """A deed of any sort, perhaps one to refuse."""
    one, other = names[dice.throw(0, len(names) - 1)], names[dice.throw(0, len(names) - 1)]
    sort = dice.throw(0, 15)
    if sort <= 4:
        d = dice.throw(0, 30)
        return "put", [(one, dice.throw(0, 101), dice.throw(0, 99), dice.throw(d * 4, 300), d)]
    if sort <= 10:
        return "tie", [one, other, dice.throw(0, 12) * 90]
    if sort == 11:
        return "untie", [one, other]
    if sort == 12:
        return "take", [one]
    if sort == 13:
        return "set_top", [dice.throw(0, 10)]
    return "undo", []


class TestRowsOfDeeds(unittest.TestCase):
    def row_of_deeds(self, seed, many, names):
        dice = Dice(seed)
        top = dice.throw(1, 9)
        keeper, reckoned = Keeper(top), Reckoned(top)
        done = set()
        for step in range(many):
            deed, rest = thrown_deed(dice, names)
            refusal = reckoned.refusal(deed, rest)
            with self.subTest(seed=seed, step=step, deed=deed, rest=rest):
                act = getattr(keeper, deed)
                if refusal is None:
                    reckoned.do(deed, rest)
                    self.assertIsNone(act(*rest))
                else:
                    with self.assertRaises(refusal):
                        act(*rest)
                done.add((deed, refusal))
                self.assertEqual(told(keeper), reckoned.web())
        return keeper, reckoned, done

    def test_against_ones_own_reckoning(self):
        done = set()
        for seed in range(40):
            names = NAMES[:3 + seed % 6] if seed % 3 else ("a", "b", "c", "d", "e", "f", "g", "h", "i")
            keeper, reckoned, some = self.row_of_deeds(seed, 150, names)
            done |= some
            web = told(keeper)
            if web is not None:
                self.assertIs(is_web(web), True)
                self.assertEqual(keeper.stair(), stair_of(web))
            while reckoned.past:
                reckoned.do("undo", [])
                keeper.undo()
                self.assertEqual(told(keeper), reckoned.web())
            with self.assertRaises(NoUndo):
                keeper.undo()
        # The rows have come by every deed, done and refused.
        self.assertEqual(done, {(deed, refusal) for deed, bad in (
            ("put", NoPlace), ("take", NoName), ("tie", NoTie), ("untie", NoTie), ("set_top", NoTop),
            ("undo", NoUndo)) for refusal in (None, bad)})


class TestDeeds(unittest.TestCase):
    def test_webs_put_in(self):
        for web in (*KEPT, *thrown_webs(41, 40)):
            self.assertEqual(keeper_of(web).web(), web)
            turned = Keeper(web[0])
            for place in web[1][::-1]:
                turned.put(place)
            for one, other, size in web[2][::-1]:
                turned.tie(one, other, size)
            self.assertEqual(turned.web(), web)

    def test_its_stair(self):
        for web in (*KEPT, *thrown_webs(42, 20)):
            self.assertEqual(keeper_of(web).stair(), plain_stair(web))

    def test_deeds_tell_none(self):
        keeper = Keeper(1)
        for told_by in (keeper.put(("a", 0, 0, 0, 0)), keeper.put(("b", 0, 0, 0, 0)), keeper.tie("a", "b", 1),
                        keeper.untie("a", "b"), keeper.set_top(2), keeper.take("a"), keeper.undo()):
            self.assertIsNone(told_by)

    def test_take_with_all_its_ties(self):
        keeper = keeper_of(RING)
        keeper.take("a")
        self.assertEqual(keeper.web(), (4, RING[1][1:], (("b", "c", 6),)))
        keeper.take("c")
        self.assertEqual(keeper.web(), (4, (RING[1][1],), ()))
        keeper.take("b")
        with self.assertRaises(NoWeb):
            keeper.web()
        for _ in range(3):
            keeper.undo()
        self.assertEqual(keeper.web(), RING)

    def test_take_leaves_names_that_begin_alike(self):
        keeper = Keeper(1)
        for name in ("a", "aa", "b"):
            keeper.put((name, 0, 0, 0, 0))
        keeper.tie("aa", "b", 1)
        keeper.tie("b", "aa", 1)
        keeper.take("a")
        self.assertEqual(keeper.web(), (1, (("aa", 0, 0, 0, 0), ("b", 0, 0, 0, 0)), (("aa", "b", 1), ("b", "aa", 1))))

    def test_untie_one_way_alone(self):
        keeper = keeper_of(RING)
        keeper.untie("b", "a")
        self.assertEqual(keeper.web(), (4, RING[1], (("a", "b", 11), ("b", "c", 6), ("c", "a", 3))))
        with self.assertRaises(NoTie):
            keeper.untie("b", "a")
        keeper.tie("b", "a", 999)
        self.assertEqual(keeper.web()[2][1], ("b", "a", 999))

    def test_put_again_behind_taking_out(self):
        keeper = keeper_of(PLAIN)
        keeper.take("a")
        keeper.put(("a", 1, 2, 99, 3))
        self.assertEqual(keeper.web(), (3, (("a", 1, 2, 99, 3), ("b", 0, 4, 12, 1)), ()))

    def test_set_top(self):
        keeper = keeper_of(PLAIN)
        for top in (1, 2, 3):
            keeper.set_top(top)
            self.assertEqual(keeper.web(), (top, *PLAIN[1:]))
            self.assertEqual(keeper.stair(), plain_stair((top, *PLAIN[1:])))
        empty = Keeper(9)
        for top in range(1, 10):
            empty.set_top(top)
            empty.put(("a", 0, 0, 99 * top, 99))
            self.assertEqual(empty.web(), (top, (("a", 0, 0, 99 * top, 99),), ()))
            empty.take("a")

    def test_a_greater_top_asks_more_of_places_put(self):
        keeper = Keeper(1)
        keeper.put(("a", 0, 0, 10, 5))
        keeper.set_top(2)
        with self.assertRaises(NoPlace):
            keeper.put(("b", 0, 0, 9, 5))
        keeper.put(("b", 0, 0, 10, 5))


class TestUndo(unittest.TestCase):
    def test_each_deed(self):
        keeper = keeper_of(RING)
        for deed, rest in (("put", [("d", 1, 2, 30, 4)]), ("take", ["b"]), ("tie", ["a", "c", 5]),
                           ("untie", ["a", "b"]), ("set_top", [2]), ("set_top", [4])):
            getattr(keeper, deed)(*rest)
            keeper.undo()
            self.assertEqual(keeper.web(), RING)

    def test_the_same_top_is_a_deed(self):
        keeper = keeper_of(PLAIN)
        keeper.take("a")
        left = keeper.web()
        keeper.set_top(3)
        keeper.set_top(3)
        for _ in range(2):
            self.assertEqual(keeper.web(), left)
            keeper.undo()
        self.assertEqual(keeper.web(), left)
        keeper.undo()
        self.assertEqual(keeper.web(), PLAIN)
        fresh = Keeper(5)
        fresh.set_top(5)
        fresh.undo()
        with self.assertRaises(NoUndo):
            fresh.undo()

    def test_to_nothing_and_again(self):
        keeper = keeper_of(CHAIN)
        stages = []
        for _ in range(len(CHAIN[1]) + len(CHAIN[2])):
            stages.append(told(keeper))
            keeper.undo()
        self.assertIsNone(told(keeper))
        with self.assertRaises(NoUndo):
            keeper.undo()
        with self.assertRaises(NoUndo):
            keeper.undo()
        for stage in stages[::-1]:
            if len(stage[1]) < 8 or not stage[2]:
                keeper.put(CHAIN[1][len(stage[1]) - 1])
            else:
                keeper.tie(*CHAIN[2][len(stage[2]) - 1])
            self.assertEqual(keeper.web(), stage)

    def test_what_is_taken_back_is_not_taken_back_again(self):
        keeper = Keeper(1)
        keeper.put(("a", 0, 0, 0, 0))
        keeper.put(("b", 0, 0, 0, 0))
        keeper.undo()
        keeper.put(("c", 0, 0, 0, 0))
        keeper.undo()
        self.assertEqual(keeper.web()[1], (("a", 0, 0, 0, 0),))
        keeper.undo()
        self.assertIsNone(told(keeper))
        with self.assertRaises(NoUndo):
            keeper.undo()

    def test_top_is_taken_back_without_places(self):
        keeper = Keeper(9)
        keeper.set_top(1)
        keeper.undo()
        with self.assertRaises(NoPlace):
            keeper.put(("a", 0, 0, 8, 1))
        keeper.put(("a", 0, 0, 9, 1))
        self.assertEqual(keeper.web()[0], 9)


class TestRefusals(unittest.TestCase):
    def refuses(self, keeper, refusal, deed, *rest):
        """That the deed is refused and changes nothing."""
        before = told(keeper)
        with self.assertRaises(refusal):
            getattr(keeper, deed)(*rest)
        self.assertEqual(told(keeper), before)

    def test_what_is_no_top(self):
        for at, thing in enumerate(no_tops()):
            with self.subTest(at=at):
                with self.assertRaises(NoTop):
                    Keeper(thing)
                keeper = keeper_of(PLAIN)
                self.refuses(keeper, NoTop, "set_top", thing)
        for top in range(1, 10):
            keeper = Keeper(top)
            keeper.put(("a", 0, 0, 999, 0))
            self.assertEqual(keeper.web()[0], top)

    def test_a_top_for_which_some_c_is_too_little(self):
        keeper = Keeper(3)
        keeper.put(("a", 0, 0, 27, 9))
        keeper.put(("b", 0, 0, 30, 5))
        keeper.put(("c", 0, 0, 0, 0))
        self.refuses(keeper, NoTop, "set_top", 4)
        keeper.take("a")
        for top in (4, 5, 6):
            keeper.set_top(top)
        self.refuses(keeper, NoTop, "set_top", 7)
        keeper.take("b")
        keeper.set_top(9)

    def test_what_is_no_place(self):
        keeper = keeper_of(PLAIN)
        place = ("c", 1, 2, 30, 4)
        things = odd_things() + [list(place), place[:4], (*place, 0), (place,)]
        things += [(thing, *place[1:]) for thing in odd_but_texts()]
        for field in range(1, 5):
            things += [(*place[:field], thing, *place[field + 1:]) for thing in odd_but_numbers()]
        for at, thing in enumerate(things):
            with self.subTest(at=at):
                self.refuses(keeper, NoPlace, "put", thing)

    def test_bounds_of_a_place(self):
        keeper = keeper_of(PLAIN)
        for place, taken in (
                (("c", 0, 0, 0, 0), True), (("c", 99, 99, 999, 99), True), (("c", -1, 0, 0, 0), False),
                (("c", 100, 0, 0, 0), False), (("c", 0, -1, 0, 0), False), (("c", 0, 100, 0, 0), False),
                (("c", 0, 0, -1, 0), False), (("c", 0, 0, 1000, 0), False), (("c", 0, 0, 0, -1), False),
                (("c", 0, 0, 999, 100), False), (("c", 0, 0, 297, 99), True), (("c", 0, 0, 296, 99), False),
                (("zzzzzzzz", 0, 0, 0, 0), True), (("zzzzzzzzz", 0, 0, 0, 0), False), (("", 0, 0, 0, 0), False),
                (("C", 0, 0, 0, 0), False), (("c1", 0, 0, 0, 0), False), (("c", True, 0, 0, 0), False),
                (("c", 0, False, 0, 0), False), (("c", 0, 0, True, 0), False), (("c", 0, 0, 0, False), False)):
            with self.subTest(place=place):
                if taken:
                    keeper.put(place)
                    self.assertIn(place, keeper.web()[1])
                    keeper.undo()
                else:
                    self.refuses(keeper, NoPlace, "put", place)
                self.assertEqual(keeper.web(), PLAIN)

    def test_a_name_that_stands(self):
        keeper = keeper_of(PLAIN)
        for place in (("a", 2, 1, 9, 3), ("a", 0, 0, 0, 0), ("b", 99, 99, 999, 0)):
            self.refuses(keeper, NoPlace, "put", place)

    def test_where_eight_stand(self):
        keeper = keeper_of(FULL)
        self.assertEqual(len(keeper.web()[1]), 8)
        for name in ("aa", "b", "zz"):
            self.refuses(keeper, NoPlace, "put", (name, 0, 0, 0, 0))
        keeper.take("end")
        keeper.put(("b", 0, 0, 0, 0))
        self.refuses(keeper, NoPlace, "put", ("end", 0, 0, 0, 0))

    def test_what_is_no_name(self):
        keeper = keeper_of(PLAIN)
        for at, thing in enumerate(odd_but_texts()):
            with self.subTest(at=at):
                self.refuses(keeper, NoName, "take", thing)
        for name in ("", "c", "ab", "A", "a ", "aa"):
            self.refuses(keeper, NoName, "take", name)
        self.refuses(Keeper(1), NoName, "take", "a")

    def test_what_is_no_tie(self):
        keeper = keeper_of(PLAIN)
        for at, thing in enumerate([*odd_but_texts(), "", "aa", "A"]):
            with self.subTest(at=at):
                self.refuses(keeper, NoTie, "tie", "b", thing, 5)
                self.refuses(keeper, NoTie, "tie", thing, "a", 5)
                self.refuses(keeper, NoTie, "untie", "a", thing)
                self.refuses(keeper, NoTie, "untie", thing, "b")
        for at, thing in enumerate(odd_but_numbers()):
            with self.subTest(at=at):
                self.refuses(keeper, NoTie, "tie", "b", "a", thing)
        self.refuses(keeper, NoTie, "tie", Odd(), Odd(), Odd())
        self.refuses(keeper, NoTie, "untie", Odd(), Odd())

    def test_none_among_its_places(self):
        keeper = keeper_of(PLAIN)
        for one, other, size in (("b", "c", 1), ("c", "b", 1), ("c", "d", 1), ("b", "b", 1), ("a", "a", 1),
                                 ("b", "a", 0), ("b", "a", 1000), ("b", "a", -1), ("b", "a", True), ("b", "", 1)):
            self.refuses(keeper, NoTie, "tie", one, other, size)
        for size in (1, 999):
            keeper.tie("b", "a", size)
            keeper.undo()
        self.assertEqual(keeper.web(), PLAIN)

    def test_one_that_stands(self):
        keeper = keeper_of(PLAIN)
        for size in (5, 4, 6, 999):
            self.refuses(keeper, NoTie, "tie", "a", "b", size)
        keeper.tie("b", "a", 5)
        self.refuses(keeper, NoTie, "tie", "b", "a", 6)

    def test_where_sixteen_stand(self):
        keeper = Keeper(1)
        for name in "abcde":
            keeper.put((name, 0, 0, 0, 0))
        for one, other in SIXTEEN:
            keeper.tie(one, other, 1)
        self.assertEqual(len(keeper.web()[2]), 16)
        for one, other in (("e", "a"), ("e", "d")):
            self.refuses(keeper, NoTie, "tie", one, other, 1)
        keeper.untie("a", "c")
        keeper.tie("e", "d", 1)
        self.refuses(keeper, NoTie, "tie", "a", "c", 1)
        keeper.take("b")
        keeper.tie("a", "c", 1)

    def test_none_to_take_out(self):
        keeper = keeper_of(PLAIN)
        for one, other in (("b", "a"), ("a", "a"), ("a", "c"), ("c", "a"), ("", ""), ("a", "")):
            self.refuses(keeper, NoTie, "untie", one, other)
        self.refuses(Keeper(1), NoTie, "untie", "a", "b")

    def test_without_places(self):
        keeper = Keeper(4)
        for ask in (keeper.web, keeper.stair):
            with self.assertRaises(NoWeb):
                ask()
        keeper.put(("a", 0, 0, 0, 0))
        keeper.web()
        keeper.stair()
        keeper.take("a")
        for ask in (keeper.web, keeper.stair):
            with self.assertRaises(NoWeb):
                ask()

    def test_refused_deeds_are_not_taken_back(self):
        keeper = keeper_of(PLAIN)
        keeper.tie("b", "a", 7)
        for deed, rest in (("put", [("a", 0, 0, 0, 0)]), ("put", [None]), ("take", ["c"]), ("tie", ["a", "b", 1]),
                           ("untie", ["b", "b"]), ("set_top", [4]), ("set_top", [None]), ("set_top", [0])):
            with self.assertRaises((NoPlace, NoName, NoTie, NoTop)):
                getattr(keeper, deed)(*rest)
        keeper.undo()
        self.assertEqual(keeper.web(), PLAIN)
        keeper.undo()
        self.assertEqual(keeper.web(), (*PLAIN[:2], ()))


class TestApart(unittest.TestCase):
    def test_what_was_told_stays(self):
        keeper = keeper_of(RING)
        web, stair = keeper.web(), keeper.stair()
        kept = (list(stair[0]), list(stair[1]))
        keeper.take("a")
        keeper.set_top(2)
        self.assertEqual(web, RING)
        self.assertEqual(stair, kept)
        keeper.undo()
        keeper.undo()
        stair[0].clear()
        stair[1].append(None)
        self.assertEqual(keeper.stair(), kept)
        self.assertEqual(keeper.web(), RING)

    def test_two_keepers(self):
        one, other = Keeper(1), Keeper(1)
        one.put(("a", 0, 0, 0, 0))
        self.assertIsNone(told(other))
        with self.assertRaises(NoUndo):
            other.undo()
        other.put(("b", 0, 0, 0, 0))
        one.undo()
        self.assertEqual(other.web()[1], (("b", 0, 0, 0, 0),))


if __name__ == "__main__":
    unittest.main()
