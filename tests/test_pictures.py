"""Pictures in two tones: [24], and [2] of it."""

import unittest
from fractions import Fraction
from itertools import product

from cutstairs.errors import NoNumber
from cutstairs.fractions import is_fraction
from cutstairs.pictures import is_picture, tones_of
from samples import Dice, as_number, odd_but_numbers, odd_but_texts, odd_things

# All heights and widths that a picture can have.
SIZES = [(high, wide) for high in range(1, 9) for wide in range(1, 9) if high * wide <= 8]


def thrown_pictures(seed, many):
    """So many pictures of each size, with the SMOOTHs that they are tried with."""
    dice = Dice(seed)
    for high, wide in SIZES:
        for _ in range(many):
            picture = tuple("".join(str(dice.throw(0, 9)) for _ in range(wide)) for _ in range(high))
            yield picture, dice.throw(0, 3) * dice.throw(0, 2)


def all_tones(high, wide):
    """All pictures of a size in two tones."""
    return [tuple("".join(signs[row * wide:(row + 1) * wide]) for row in range(high))
            for signs in product(".#", repeat=high * wide)]


def line_cost(picture, smooth, tones):
    """What tones cost, (BASE, LEAN), spot by spot."""
    base = lean = 0
    for row, texts in enumerate(zip(picture, tones)):
        for column, (figure, tone) in enumerate(zip(*texts)):
            if tone == "#":
                base += int(figure)
            else:
                lean += 1
            if column + 1 < len(tones[row]) and tones[row][column + 1] != tone:
                base += smooth
            if row + 1 < len(tones) and tones[row + 1][column] != tone:
                base += smooth
    return base, lean


def dark(tones):
    """The places of the dark spots."""
    return {(row, column) for row, text in enumerate(tones) for column, tone in enumerate(text) if tone == "#"}


class TestIsPicture(unittest.TestCase):
    def test_pictures(self):
        for picture, smooth in thrown_pictures(61, 2):
            self.assertIs(is_picture(picture), True)
        for figure in "0123456789":
            self.assertIs(is_picture((figure,)), True)

    def test_how_many_figures(self):
        for high in range(0, 10):
            for wide in range(0, 10):
                with self.subTest(high=high, wide=wide):
                    self.assertIs(is_picture(("5" * wide,) * high), 1 <= high * wide <= 8)

    def test_as_long_as_each_other(self):
        for thing, told in ((("12", "34"), True), (("12", "3"), False), (("1", "23"), False), (("1", ""), False),
                            (("", "1"), False), (("123", "456", "78"), False), (("12", "34", "5", "6"), False),
                            (("12", "34", "56", "78"), True), (("1234", "5678"), True), (("123", "45", "678"), False)):
            self.assertIs(is_picture(thing), told)

    def test_other_signs(self):
        for sign in ("a", " ", "-", "+", ".", "#", "\n", "\t", "/", ":", "\u0663", "\u00b2", "\uff11"):
            for thing in ((sign,), ("1" + sign,), (sign + "1",), ("1", sign), ("11", sign + "1")):
                self.assertIs(is_picture(thing), False)

    def test_lists_and_other_kinds(self):
        for thing in (["12"], "12", ("12", 34), (12,), ((1, 2),), (("1", "2"),), (["1"],), (b"12",), (None,), ((),),
                      {"12": 1}, ("1", None), ("1", ["2"])):
            self.assertIs(is_picture(thing), False)

    def test_things_of_any_kind(self):
        for at, thing in enumerate(odd_things()):
            # One of them happens to be a picture of two rows.
            if not (isinstance(thing, tuple) and all(isinstance(row, str) and row in ("0", "1") for row in thing)):
                with self.subTest(at=at):
                    self.assertIs(is_picture(thing), False)
        for at, thing in enumerate(odd_but_texts()):
            with self.subTest(at=at):
                self.assertIs(is_picture((thing,)), False)
                self.assertIs(is_picture(("1", thing)), False)
                self.assertIs(is_picture((thing, "1")), False)


class TestTonesOf(unittest.TestCase):
    def check(self, picture, smooth):
        """That between the breaks those tones cost least, all others that do have more dark spots."""
        tones, breaks = tones_of(picture, smooth)
        lines = {other: line_cost(picture, smooth, other) for other in all_tones(len(picture), len(picture[0]))}
        ends = [Fraction(0), *[as_number(at) for at in breaks], Fraction(9)]
        self.assertEqual(len(tones), len(breaks) + 1)
        self.assertEqual(ends, sorted(set(ends)))
        for low, high, told in zip(ends, ends[1:], tones):
            for at in (low + (high - low) / 1000, (low + high) / 2, high - (high - low) / 1000):
                top, bottom = at.numerator, at.denominator
                costs = {other: base * bottom + lean * top for other, (base, lean) in lines.items()}
                least = min(costs.values())
                best = [other for other in costs if costs[other] == least]
                fewest = min(len(dark(other)) for other in best)
                self.assertEqual([other for other in best if len(dark(other)) == fewest], [told])
            # So it is least at all prices between, too, for what costs least is a row of straight bits.
            for at in (low, high):
                self.assertEqual(min(base + lean * at for base, lean in lines.values()),
                                 lines[told][0] + lines[told][1] * at)
        for one, other in zip(tones, tones[1:]):
            self.assertLess(dark(one), dark(other))

    def test_as_by_going_through_all_pictures_in_two_tones(self):
        for picture, smooth in thrown_pictures(62, 5):
            with self.subTest(picture=picture, smooth=smooth):
                self.check(picture, smooth)

    def test_no_smooth_and_the_greatest(self):
        for picture, _ in thrown_pictures(63, 1):
            for smooth in (0, 1, 9, 10, 99):
                with self.subTest(picture=picture, smooth=smooth):
                    self.check(picture, smooth)

    def test_its_kind(self):
        for picture, smooth in thrown_pictures(64, 1):
            told = tones_of(picture, smooth)
            self.assertIsInstance(told, tuple)
            tones, breaks = told
            self.assertIsInstance(tones, list)
            self.assertIsInstance(breaks, list)
            for one in tones:
                self.assertIsInstance(one, tuple)
                self.assertEqual([len(row) for row in one], [len(row) for row in picture])
            for at in breaks:
                self.assertIs(is_fraction(at), True)

    def test_one_spot(self):
        # Dark from the price on that is its figure; at 0 and at 9 there is no break.
        self.assertEqual(tones_of(("0",), 5), ([("#",)], []))
        self.assertEqual(tones_of(("9",), 5), ([(".",)], []))
        for figure in range(1, 9):
            self.assertEqual(tones_of((str(figure),), 5), ([(".",), ("#",)], [(figure, 1)]))

    def test_told_by_hand(self):
        self.assertEqual(tones_of(("37",), 0), ([("..",), ("#.",), ("##",)], [(3, 1), (7, 1)]))
        self.assertEqual(tones_of(("37",), 1), ([("..",), ("#.",), ("##",)], [(4, 1), (6, 1)]))
        self.assertEqual(tones_of(("37",), 2), ([("..",), ("##",)], [(5, 1)]))
        self.assertEqual(tones_of(("37",), 99), ([("..",), ("##",)], [(5, 1)]))
        self.assertEqual(tones_of(("3", "7"), 1), ([(".", "."), ("#", "."), ("#", "#")], [(4, 1), (6, 1)]))
        self.assertEqual(tones_of(("19", "91"), 0), ([("..", ".."), ("#.", ".#")], [(1, 1)]))
        self.assertEqual(tones_of(("19", "91"), 99), ([("..", ".."), ("##", "##")], [(5, 1)]))
        self.assertEqual(tones_of(("12", "24"), 99), ([("..", ".."), ("##", "##")], [(9, 4)]))

    def test_spots_at_the_ends_of_rows_are_not_beside_each_other(self):
        # The last spot of a row and the first of the next one touch nowhere.
        self.assertEqual(tones_of(("900", "009"), 1)[0][0], ("...", "..."))
        for picture in (("900", "009"), ("09", "90"), ("9099", "9909"), ("90", "09", "90", "09")):
            for smooth in (0, 1, 2, 5):
                self.check(picture, smooth)

    def test_one_row_one_column_two_by_four(self):
        for row in ("30517284", "99990000", "09090909", "55555555", "12345678"):
            for picture in ((row,), tuple(row), (row[:4], row[4:]), (row[:2], row[2:4], row[4:6], row[6:])):
                for smooth in (0, 1, 4):
                    self.check(picture, smooth)

    def test_what_is_no_smooth(self):
        for picture in (("5",), ("12", "34")):
            for at, thing in enumerate([*odd_but_numbers(), -1, 100, 10 ** 30, "5", (5,), [5], (5, 1)]):
                with self.subTest(at=at), self.assertRaises(NoNumber):
                    tones_of(picture, thing)

    def test_new_lists_each_time(self):
        first = tones_of(("37",), 1)
        kept = (list(first[0]), list(first[1]))
        first[0].clear()
        first[1].append(None)
        self.assertEqual(tones_of(("37",), 1), kept)


if __name__ == "__main__":
    unittest.main()
