"""The desk: [27], and [2] of it."""

import unittest

from cutstairs.coming import all_goes, comes_over
from cutstairs.desk import Desk
from cutstairs.errors import NoName, NoPlace, NoPrice, NoRow, NoShare, NoTie, NoTop, NoUndo, NoWeb
from cutstairs.keepers import Keeper
from cutstairs.least import least_cut, least_worth, most_cut
from cutstairs.shapes import many_cuts
from cutstairs.sharing import shares_of
from cutstairs.stairs import stair_of
from cutstairs.webtexts import show_web
from samples import (EVEN, FULL, KEPT, LONE, MIXED, NINE_BITS, PLAIN, RING, STAIRED, Dice, odd_but_numbers, odd_but_texts,
                     sharing, stair_prices, thrown_webs)

WEBS = KEPT + STAIRED + tuple(thrown_webs(91, 40))
QUESTIONS = ("web", "worth 1", "least 1", "most 1", "cuts 1", "stair", "over a", "goes", "shares", "paper stair",
             "paper goes", "paper shares")


def desk_of(web):
    """A desk to which a web was said, row by row."""
    desk = Desk(web[0])
    for name, a, b, c, d in web[1]:
        desk.say(f"put {name} {a} {b} {c} {d}")
    for one, other, size in web[2]:
        desk.say(f"tie {one} {other} {size}")
    return desk


def written(told):
    """A fraction as prices are written."""
    return str(told[0]) if told[1] == 1 else "/".join([str(told[0]), str(told[1])])


def named(names):
    return " ".join(names) or "none"


def written_stair(web):
    bits, breaks = stair_of(web)
    words = []
    for cut, most, base, lean in bits:
        words.append(named(cut) + ": " + str(base) + ("+" + str(lean) if lean >= 0 else str(lean)))
    told = words[0]
    for at, word in zip(breaks, words[1:]):
        told += " | " + written(at) + " | " + word
    return told


class TestDeeds(unittest.TestCase):
    def test_webs_said(self):
        for web in WEBS:
            self.assertEqual(desk_of(web).say("web"), show_web(web).replace("\n", "; "))

    def test_each_deed_is_answered_ok(self):
        desk = Desk(3)
        for row in ("put a 2 1 9 3", "put b 0 4 12 1", "tie a b 5", "tie b a 1", "untie b a", "top 2", "top 2", "top 3",
                    "undo", "undo", "undo", "undo", "undo", "tie b a 7", "take a", "undo", "undo"):
            self.assertEqual(desk.say(row), "ok")
        self.assertEqual(desk.say("web"), "top 3; a 2+1 9-3; b 0+4 12-1; a > b 5")

    def test_against_a_keeper(self):
        dice = Dice(92)
        for _ in range(20):
            top = dice.throw(1, 9)
            desk, keeper = Desk(top), Keeper(top)
            for _ in range(120):
                one, other = "abcd"[dice.throw(0, 3)], "abcd"[dice.throw(0, 3)]
                numbers = [dice.throw(0, 110), dice.throw(0, 9), dice.throw(0, 300), dice.throw(0, 20)]
                size, top = dice.throw(0, 1005), dice.throw(0, 10)
                row, deed = (
                    (" ".join(["put", one, *map(str, numbers)]), lambda: keeper.put((one, *numbers))),
                    (f"tie {one} {other} {size}", lambda: keeper.tie(one, other, size)),
                    (f"untie {one} {other}", lambda: keeper.untie(one, other)),
                    (f"take {one}", lambda: keeper.take(one)),
                    (f"top {top}", lambda: keeper.set_top(top)),
                    ("undo", lambda: keeper.undo()),
                )[(0, 0, 0, 1, 1, 1, 2, 3, 4, 5)[dice.throw(0, 9)]]
                self.same(lambda: desk.say(row), deed)
                self.same(lambda: desk.say("web"), keeper.web)

    def same(self, say, ask):
        """That the desk answers or refuses as the keeper does."""
        try:
            told = ask()
        except ValueError as refusal:
            with self.assertRaises(refusal.__class__):
                say()
        else:
            self.assertEqual(say(), "ok" if told is None else show_web(told).replace("\n", "; "))


class TestQuestions(unittest.TestCase):
    def test_at_prices(self):
        for web in WEBS:
            desk = desk_of(web)
            short = [price for price in stair_prices(web) if max(price) < 10 ** 6]
            for price in short:
                at = written(price)
                with self.subTest(web=web, at=at):
                    self.assertEqual(desk.say("worth " + at), written(least_worth(web, price)))
                    self.assertEqual(desk.say("least " + at), named(least_cut(web, price)))
                    self.assertEqual(desk.say("most " + at), named(most_cut(web, price)))
                    self.assertEqual(desk.say("cuts " + at), str(many_cuts(web, price)))

    def test_the_stair(self):
        for web in WEBS:
            self.assertEqual(desk_of(web).say("stair"), written_stair(web))

    def test_the_stair_by_hand(self):
        self.assertEqual(desk_of(PLAIN).say("stair"), "none: 2+5 | 19/9 | a b: 21-4")
        self.assertEqual(desk_of(LONE).say("stair"), "none: 0+0")
        self.assertEqual(desk_of((2, (("a", 0, 1, 1, 0),), ())).say("stair"), "none: 0+1 | 1 | a: 1+0")

    def test_when_places_come_over(self):
        for web in (*WEBS, MIXED):
            desk = desk_of(web)
            for name in (place[0] for place in web[1]):
                when = comes_over(web, name)
                self.assertEqual(desk.say("over " + name), written(when[1]) if len(when) == 2 else when[0])
        desk = desk_of(MIXED)
        self.assertEqual([desk.say("over " + name) for name in "abcdefg"],
                         ["never", "2", "always", "2", "1", "always", "never"])

    def test_until_when_all_goes(self):
        for web in WEBS:
            told = all_goes(web)
            self.assertEqual(desk_of(web).say("goes"), written(told[1]) if len(told) == 2 else "never")
        self.assertEqual(desk_of(PLAIN).say("goes"), "19/9")
        self.assertEqual(desk_of(MIXED).say("goes"), "never")

    def test_shares(self):
        for web in WEBS:
            web = sharing(web)
            self.assertEqual(desk_of(web).say("shares"), " ".join(written(share) for share in shares_of(web)))
        desk = desk_of((1, (("a", 0, 1, 0, 0), ("b", 0, 1, 1, 0)), (("a", "b", 1),)))
        self.assertEqual(desk.say("shares"), "1/2 1/2")
        self.assertEqual(desk_of((3, (("a", 0, 2, 99, 0),), ())).say("shares"), "6")

    def test_papers(self):
        for web in WEBS:
            desk = desk_of(web)
            self.assertEqual(desk.say("paper stair"), "holds")
            self.assertEqual(desk.say("paper goes"), "holds")
            self.assertEqual(desk_of(sharing(web)).say("paper shares"), "holds")

    def test_questions_change_nothing(self):
        desk = desk_of(sharing(RING))
        before = [desk.say(row) for row in QUESTIONS]
        self.assertEqual([desk.say(row) for row in QUESTIONS], before)
        desk.say("undo")
        self.assertEqual(desk.say("web"), show_web((*sharing(RING)[:2], RING[2][:-1])).replace("\n", "; "))

    def test_by_hand(self):
        desk = desk_of(PLAIN)
        for row, told in (("worth 0", "2"), ("worth 1/2", "9/2"), ("worth 19/9", "113/9"), ("worth 3", "9"),
                          ("least 0", "none"), ("least 19/9", "none"), ("least 3", "a b"), ("most 19/9", "a b"),
                          ("most 0", "none"), ("cuts 19/9", "2"), ("cuts 0", "1"), ("over a", "19/9"), ("goes", "19/9"),
                          ("web", "top 3; a 2+1 9-3; b 0+4 12-1; a > b 5")):
            self.assertEqual(desk.say(row), told)
        self.assertEqual(desk_of(EVEN).say("cuts 1"), "4")

    def test_a_place_called_none(self):
        desk = Desk(2)
        desk.say("put none 0 1 1 0")
        for row, told in (("least 0", "none"), ("least 2", "none"), ("most 1", "none"), ("over none", "1"),
                          ("web", "top 2; none 0+1 1-0"), ("stair", "none: 0+1 | 1 | none: 1+0")):
            self.assertEqual(desk.say(row), told)
        desk.say("take none")

    def test_places_called_like_words(self):
        desk = Desk(2)
        for name in ("put", "take", "tie", "top", "undo", "web", "stair", "paper"):
            self.assertEqual(desk.say(f"put {name} 0 1 1 0"), "ok")
        self.assertEqual(desk.say("tie take put 5"), "ok")
        self.assertEqual(desk.say("over undo"), "1")
        self.assertEqual(desk.say("paper stair"), "holds")
        self.assertEqual(desk.say("most 1"), "paper put stair take tie top undo web")


class TestNoRow(unittest.TestCase):
    def refuses(self, rows):
        """That all rows are refused, with places and without, and change nothing."""
        for desk in (desk_of(PLAIN), desk_of(sharing(PLAIN)), Desk(3)):
            for row in rows:
                with self.subTest(row=row), self.assertRaises(NoRow):
                    desk.say(row)
        desk = desk_of(PLAIN)
        for row in rows:
            with self.assertRaises(NoRow):
                desk.say(row)
        self.assertEqual(desk.say("web"), "top 3; a 2+1 9-3; b 0+4 12-1; a > b 5")
        desk.say("undo")
        self.assertEqual(desk.say("web"), "top 3; a 2+1 9-3; b 0+4 12-1")

    def test_what_is_no_text(self):
        self.refuses([*odd_but_texts(), b"undo", ["undo"], ("undo",), ["put", "a"]])

    def test_other_words(self):
        self.refuses(["", " ", "  ", "hello", "Undo", "UNDO", "undone", "do", "set_top 3", "set 3", "price 1", "until",
                      "never", "none", "a", "1", "worth1", "places", "densest", "top3", "untop 3", "cut 1", "most_cut 1"])

    def test_other_numbers_of_words(self):
        self.refuses(["put", "put c", "put c 1", "put c 1 2", "put c 1 2 3", "put c 1 2 30 4 5", "take", "take a b", "tie",
                      "tie a", "tie b a", "tie b a 1 2", "untie", "untie a", "untie a b 5", "top", "top 3 3", "undo 1",
                      "undo undo", "web 1", "worth", "worth 1 2", "least", "least 1 1", "most", "most 1 1", "cuts",
                      "cuts 1 1", "stair 1", "over", "over a b", "goes 1", "shares 1", "paper", "paper stair stair",
                      "paper stair 1"])

    def test_blanks(self):
        for row in ("put c 1 2 30 4", "take a", "tie b a 1", "untie a b", "top 3", "undo", "web", "worth 1", "least 1",
                    "most 1", "cuts 1", "stair", "over a", "goes", "shares", "paper stair"):
            self.refuses([" " + row, row + " ", row + "  ", "  " + row, row + "\n", "\n" + row, row + "\t"])
            if " " in row:
                self.refuses([row.replace(" ", "  "), row.replace(" ", "  ", 1), row.replace(" ", "\t"),
                              row.replace(" ", "\n", 1), row.replace(" ", ",")])

    def test_numbers(self):
        wrong = ["00", "01", "007", "1000000", "0000001", "9999999", "+1", "-1", "-0", "1.0", "1e1", "1_0", "x", "",
                 "a", "1a", "0x1", "1/2", "one", "\u0661", "\u00b2", "99999999999999999999"]
        self.refuses([f"top {word}" for word in wrong])
        self.refuses([f"tie b a {word}" for word in wrong])
        for at in range(4):
            rows = []
            for word in wrong:
                numbers = ["1", "2", "30", "4"]
                numbers[at] = word
                rows.append(" ".join(["put", "c", *numbers]))
            self.refuses(rows)

    def test_prices(self):
        wrong = ["00", "01", "1000000", "-1", "+1", "1.5", "", "a", "/", "1/", "/2", "1/2/3", "1//2", "2/4", "0/2", "0/1",
                 "3/1", "1/1", "1/0", "0/0", "3/3", "6/4", "01/2", "1/02", "1/1000000", "1000001/1000000", "-1/2",
                 "1/-2", "+1/2", "1/2 ", " 1/2", "1 /2", "(1,2)", "1:2", "\u00bd"]
        for ask in ("worth", "least", "most", "cuts"):
            self.refuses([f"{ask} {word}" for word in wrong])

    def test_prices_of_six_figures(self):
        desk = desk_of(PLAIN)
        self.assertEqual(desk.say("worth 1/999999"), written(least_worth(PLAIN, (1, 999999))))
        self.assertEqual(desk.say("worth 999998/999999"), written(least_worth(PLAIN, (999998, 999999))))
        with self.assertRaises(NoPrice):
            desk.say("worth 999999")

    def test_names(self):
        wrong = ["A", "aB", "a1", "1", "a_b", "abcdefghi", "", "a-b", "\u00e4"]
        self.refuses([f"put {word} 1 2 30 4" for word in wrong])
        self.refuses([f"take {word}" for word in wrong])
        self.refuses([f"over {word}" for word in wrong])
        for row in ("tie {} a 1", "tie a {} 1", "untie {} b", "untie a {}"):
            self.refuses([row.format(word) for word in wrong])

    def test_words_of_papers(self):
        self.refuses([f"paper {word}" for word in ("worth", "least", "most", "cuts", "web", "until", "never", "densest",
                                                   "thickest", "earns", "Stair", "stairs", "a", "", "1")])


class TestOtherRefusals(unittest.TestCase):
    def refuses(self, desk, refusal, *rows):
        before = None
        try:
            before = desk.say("web")
        except NoWeb:
            pass
        for row in rows:
            with self.subTest(row=row), self.assertRaises(refusal):
                desk.say(row)
        if before is None:
            with self.assertRaises(NoWeb):
                desk.say("web")
        else:
            self.assertEqual(desk.say("web"), before)

    def test_what_is_no_top(self):
        for at, thing in enumerate([*odd_but_numbers(), 0, 10, -1, "3"]):
            with self.subTest(at=at), self.assertRaises(NoTop):
                Desk(thing)
        for top in range(1, 10):
            desk = Desk(top)
            desk.say("put a 0 0 0 0")
            self.assertEqual(desk.say("web"), f"top {top}; a 0+0 0-0")

    def test_questions_without_a_place(self):
        # Ahead of what the functions refuse: prices over TOP, names that don't stand, a web that doesn't share.
        emptied = desk_of(PLAIN)
        emptied.say("take a")
        emptied.say("take b")
        for desk in (Desk(3), emptied):
            self.refuses(desk, NoWeb, *QUESTIONS, "worth 4", "least 10/3", "most 999999", "cuts 9", "over zzz")

    def test_of_the_keeper(self):
        desk = desk_of(PLAIN)
        self.refuses(desk, NoPlace, "put a 0 0 0 0", "put c 100 0 0 0", "put c 0 100 0 0", "put c 0 0 1000 0",
                     "put c 0 0 999999 0", "put c 0 0 0 1", "put c 0 0 999 100", "put c 999999 999999 999999 999999")
        self.refuses(desk, NoName, "take c", "take ab", "take none")
        self.refuses(desk, NoTie, "tie a b 1", "tie a a 1", "tie a c 1", "tie c a 1", "tie b a 0", "tie b a 1000",
                     "tie b a 999999", "untie b a", "untie a c", "untie a a")
        self.refuses(desk, NoTop, "top 0", "top 4", "top 9", "top 10", "top 999999")
        self.refuses(Desk(2), NoUndo, "undo")
        self.refuses(desk_of(FULL), NoPlace, "put b 0 0 0 0")
        self.refuses(desk_of(FULL), NoTie, "tie a drain 1")

    def test_of_the_functions(self):
        desk = desk_of(PLAIN)
        self.refuses(desk, NoPrice, *[f"{ask} {price}" for ask in ("worth", "least", "most", "cuts")
                                      for price in ("4", "10/3", "300001/100000", "999999", "999999/2")])
        self.refuses(desk, NoName, "over c", "over ab", "over none", "over always")
        self.refuses(desk, NoShare, "shares", "paper shares")

    def test_refused_rows_are_not_taken_back(self):
        desk = desk_of(PLAIN)
        for row, refusal in (("put a 0 0 0 0", NoPlace), ("take c", NoName), ("tie a b 1", NoTie), ("top 9", NoTop),
                             ("shares", NoShare), ("worth 4", NoPrice), ("hello", NoRow)):
            with self.assertRaises(refusal):
                desk.say(row)
        desk.say("undo")
        self.assertEqual(desk.say("web"), "top 3; a 2+1 9-3; b 0+4 12-1")
        desk.say("undo")
        desk.say("undo")
        with self.assertRaises(NoUndo):
            desk.say("undo")

    def test_two_desks(self):
        one, other = Desk(1), Desk(1)
        one.say("put a 0 0 0 0")
        with self.assertRaises(NoWeb):
            other.say("web")
        with self.assertRaises(NoUndo):
            other.say("undo")
        self.assertEqual(one.say("stair"), "none: 0+0")


class TestManyBits(unittest.TestCase):
    def test_nine_bits(self):
        told = desk_of(NINE_BITS).say("stair")
        self.assertEqual(told, written_stair(NINE_BITS))
        self.assertEqual(len(told.split(" | ")), 17)


if __name__ == "__main__":
    unittest.main()
