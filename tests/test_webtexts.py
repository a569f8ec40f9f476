"""Webs as texts: [6], and [2] of them."""

import unittest

from cutstairs.errors import NoText
from cutstairs.webs import is_web
from cutstairs.webtexts import read_web, show_web
from samples import FULL, KEPT, PLAIN, Odd, odd_things, thrown_webs

PLAIN_TEXT = "top 3\na 2+1 9-3\nb 0+4 12-1\na > b 5"
HEAD = "top 3\na 2+1 9-3\nb 0+4 12-1\nc 0+0 0-0"


class TestShown(unittest.TestCase):
    def test_told_by_hand(self):
        self.assertEqual(show_web(PLAIN), PLAIN_TEXT)
        self.assertEqual(show_web((1, (("x", 0, 0, 0, 0),), ())), "top 1\nx 0+0 0-0")
        self.assertEqual(show_web((9, (("aa", 99, 98, 999, 99), ("top", 10, 20, 100, 0)),
                                   (("aa", "top", 999), ("top", "aa", 1)))),
                         "top 9\naa 99+98 999-99\ntop 10+20 100-0\naa > top 999\ntop > aa 1")

    def test_read_back_and_shown_again(self):
        for web in KEPT + tuple(thrown_webs(4, 80)):
            text = show_web(web)
            self.assertIsInstance(text, str)
            told = read_web(text)
            self.assertEqual(told, web)
            self.assertIs(is_web(told), True)
            self.assertEqual(show_web(told), text)

    def test_names_with_which_a_row_begins(self):
        text = "top 2\ntop 1+2 3-1\ntopp 0+0 0-0\ntop > topp 4\ntopp > top 5"
        web = (2, (("top", 1, 2, 3, 1), ("topp", 0, 0, 0, 0)), (("top", "topp", 4), ("topp", "top", 5)))
        self.assertEqual(read_web(text), web)
        self.assertEqual(show_web(web), text)

    def test_the_longest_text(self):
        names = ["zzzzzzz" + letter for letter in "abcdefgh"]
        ends = sorted((names[i], names[(i + by) % 8]) for i in range(8) for by in (1, 3))
        web = (9, tuple((name, 99, 99, 999, 99) for name in names), tuple((one, other, 999) for one, other in ends))
        self.assertIs(is_web(web), True)
        self.assertEqual(read_web(show_web(web)), web)


class TestRefused(unittest.TestCase):
    def check(self, text, row):
        with self.subTest(text=text):
            with self.assertRaises(NoText) as caught:
                read_web(text)
            self.assertEqual(caught.exception.row, row)
            self.assertNotIsInstance(caught.exception.row, bool)

    def check_place(self, row):
        """Refused as the second place, as the only one, and behind a tie."""
        self.check("top 3\na 2+1 9-3\n" + row, 2)
        self.check("top 3\na 2+1 9-3\n" + row + "\nzz 0+0 0-0", 2)
        self.check("top 3\n" + row, 1)

    def check_tie(self, row):
        """Refused as the first tie, and behind another one, whatever follows."""
        self.check(HEAD + "\n" + row, 4)
        self.check(HEAD + "\n" + row + "\nc > a 1", 4)
        self.check(HEAD + "\na > b 1\n" + row, 5)

    def test_what_is_no_text(self):
        for thing in odd_things():
            if not isinstance(thing, str):
                self.check(thing, 0)
        for thing in (PLAIN, PLAIN_TEXT.encode(), [PLAIN_TEXT], (PLAIN_TEXT,), PLAIN_TEXT.split("\n"), Odd()):
            self.check(thing, 0)

    def test_the_top_alone(self):
        for text in ("top 1", "top 3", "top 9"):
            self.check(text, 0)
            self.check(text + "\n", 1)
            self.check(text + "\n\n", 1)
            self.check(text + "\n\na 0+0 0-0", 1)

    def test_the_first_row(self):
        for row in ("", "top", "top ", "top 0", "top 10", "top 01", "top 00", "top -1", "top +1", "top  1", " top 1",
                    "top 1 ", "Top 1", "TOP 1", "tops 1", "to 1", "1", "top a", "top 1 1", "top\t1", "top1", "top 1.",
                    "a 2+1 9-3", "top 1+1 1-0", "top > a 1", "top 99999999999999999999", "top \u0663", "top 1\r"):
            self.check(row, 0)
            self.check(row + "\na 2+1 9-0", 0)
            self.check(row + "\n", 0)
            self.check(row + "\nno row at all", 0)

    def test_a_line_end_at_either_end(self):
        self.check(PLAIN_TEXT + "\n", 4)
        self.check("top 3\na 2+1 9-3\n", 2)
        self.check("\n" + PLAIN_TEXT, 0)
        self.check("\n", 0)
        self.check("", 0)

    def test_empty_rows_between(self):
        rows = PLAIN_TEXT.split("\n")
        for at in range(1, 4):
            self.check("\n".join(rows[:at] + [""] + rows[at:]), at)
            self.check("\n".join(rows[:at] + [" "] + rows[at:]), at)

    def test_other_line_ends(self):
        self.check(PLAIN_TEXT.replace("\n", "\r\n"), 0)
        self.check("top 3\na 2+1 9-3\rb 0+4 12-1", 1)
        self.check(PLAIN_TEXT.replace("\n", "; "), 0)

    def test_noughts_ahead(self):
        for row in ("b 00+4 12-1", "b 01+4 12-1", "b 0+04 12-1", "b 0+00 12-1", "b 0+4 012-1", "b 0+4 12-01",
                    "b 0+4 00-0", "b 0+4 12-00", "b 000+0 0-0"):
            self.check_place(row)
        for row in ("b > a 05", "b > a 001", "b > a 00", "b > a 0999"):
            self.check_tie(row)

    def test_blanks_too_many_or_too_few(self):
        for row in (" b 0+4 12-1", "b  0+4 12-1", "b 0+4  12-1", "b 0+4 12-1 ", "b 0 +4 12-1", "b 0+ 4 12-1",
                    "b 0+4 12 -1", "b 0+4 12- 1", "b0+4 12-1", "b 0+412-1", "b\t0+4 12-1", "b 0+4\t12-1"):
            self.check_place(row)
        for row in (" b > a 5", "b  > a 5", "b >  a 5", "b > a  5", "b > a 5 ", "b> a 5", "b >a 5", "b>a 5", "b > a5",
                    "b >\ta 5"):
            self.check_tie(row)

    def test_places_written_otherwise(self):
        for row in ("b", "b 0+4", "b 0+4 12", "b 0 12-1", "b 0-4 12+1", "b 0+4 12+1", "b 0-4 12-1", "b +4 12-1",
                    "b 0+ 12-1", "b + 12-1", "b 0+4 -1", "b 0+4 12-", "b 0+4 -", "b 0+4+1 12-1", "b 0+4 12-1-1",
                    "b -1+4 12-1", "b 0+-4 12-1", "b 0+4 --1", "b 0+4 12--1", "b 0+4 12-1 7", "b 0,4 12-1",
                    "b 0+1+9 3", "b 0 1-9-3",
                    "b 0+4 12-x", "b x+4 12-1", "0+4 12-1", " 0+4 12-1", "B 0+4 12-1", "b1 0+4 12-1", "b_ 0+4 12-1",
                    "bbbbbbbbb 0+4 12-1", "b 1_0+4 12-1", "b 0+4 12-1.", "b \u0663+4 12-1", "b 0+4 \u00b2-1"):
            self.check_place(row)

    def test_ties_written_otherwise(self):
        for row in ("b > a", "b > a ", "b a 5", "b < a 5", "b >> a 5", "b - a 5", "> a 5", "b > 5", "b > a 5 5",
                    "b > a x", "b > a -5", "b > a +5", "b > a 5.", "B > a 5", "b > A 5", "b >  5", " > a 5",
                    "b > a 1_0", "b > a \u0665", "b"):
            self.check_tie(row)

    def test_numbers_beyond_their_bounds(self):
        for row in ("b 100+4 12-1", "b 0+100 12-1", "b 0+4 1000-1", "b 0+4 999-100", "b 0+4 1000-0", "b 999+0 0-0",
                    "b 99999999999999999999+4 12-1", "b 0+4 99999999999999999999-1", "b 9+" + "9" * 400 + " 12-1"):
            self.check_place(row)
        for row in ("b > a 0", "b > a 1000", "b > a 99999999999999999999", "b > a " + "9" * 400):
            self.check_tie(row)
        self.assertEqual(read_web("top 9\na 99+99 999-99\nb 0+0 891-99\na > b 999\nb > a 1"),
                         (9, (("a", 99, 99, 999, 99), ("b", 0, 0, 891, 99)), (("a", "b", 999), ("b", "a", 1))))

    def test_too_little_for_the_drain(self):
        self.check_place("b 0+4 2-1")
        self.check_place("b 0+4 296-99")
        self.check_place("b 0+4 0-1")
        self.check("top 9\na 0+0 9-1\nb 0+0 8-1\nc 0+0 9-1", 2)
        self.assertEqual(read_web("top 3\na 0+0 3-1"), (3, (("a", 0, 0, 3, 1),), ()))

    def test_rows_out_of_order_or_twice(self):
        self.check("top 3\nb 2+1 9-3\na 0+4 12-1", 2)
        self.check("top 3\na 2+1 9-3\na 2+1 9-3", 2)
        self.check("top 3\na 2+1 9-3\na 3+1 9-3", 2)
        self.check("top 3\na 2+1 9-3\nc 2+1 9-3\nb 2+1 9-3\nd 0+0 0-0", 3)
        self.check(HEAD + "\nb > a 1\na > b 1", 5)
        self.check(HEAD + "\na > c 1\na > b 1", 5)
        self.check(HEAD + "\na > b 1\na > b 1", 5)
        self.check(HEAD + "\na > b 1\na > b 2", 5)
        self.check(HEAD + "\na > b 2\na > b 1", 5)
        self.check(HEAD + "\na > b 2\nb > a 1\nb > a 3\nc > a 1", 6)
        self.check(HEAD + "\ntop 3", 4)
        self.check("top 3\ntop 3", 1)

    def test_a_tie_ahead_of_a_place(self):
        self.check("top 3\na > b 5\na 2+1 9-3\nb 0+4 12-1", 1)
        self.check("top 3\na > b 5", 1)
        self.check("top 3\na 2+1 9-3\na > b 5\nb 0+4 12-1", 2)
        self.check(HEAD + "\na > b 5\nd 0+4 12-1", 5)
        self.check(HEAD + "\na > b 5\nd 0+4 12-1\nd > a 5", 5)

    def test_ends_of_ties(self):
        for row in ("b > b 5", "a > d 5", "d > a 5", "b > top 5"):
            self.check(HEAD + "\n" + row, 4)
            self.check(HEAD + "\na > b 1\n" + row, 5)

    def test_too_many_places(self):
        rows = ["top 1"] + [f"{name} 0+0 0-0" for name in "abcdefghij"]
        self.assertEqual(len(read_web("\n".join(rows[:9]))[1]), 8)
        self.check("\n".join(rows[:10]), 9)
        self.check("\n".join(rows), 9)

    def test_too_many_ties(self):
        text = "top 1\n" + "\n".join(f"{name} 0+0 0-0" for name in "abcde")
        ties = [f"{one} > {other} 1" for one in "abcde" for other in "abcde" if one != other]
        self.assertEqual(len(read_web("\n".join([text] + ties[:16]))[2]), 16)
        self.check("\n".join([text] + ties[:17]), 22)
        self.check("\n".join([text] + ties), 22)

    def test_the_first_of_several(self):
        self.check("top 3\na 2+1 8-3\nb 0+4 12-1\n\n", 1)
        self.check("top 3\na 2+1 9-3\nb 0+04 12-1\nb > b 1", 2)
        self.check(HEAD + "\na > b 1\na > c 0\nno", 5)

    def test_a_sign_changed_anywhere(self):
        text = show_web((2, (("a", 1, 2, 30, 4), ("top", 5, 60, 7, 0)), (("a", "top", 8),)))
        for at in range(len(text)):
            for sign in "%~A.":
                self.check(text[:at] + sign + text[at + 1:], text[:at].count("\n"))

    def test_a_refusal_changes_nothing(self):
        self.check(HEAD + "\n", 4)
        self.assertEqual(read_web(PLAIN_TEXT), PLAIN)
        self.assertEqual(read_web(show_web(FULL)), FULL)


if __name__ == "__main__":
    unittest.main()
