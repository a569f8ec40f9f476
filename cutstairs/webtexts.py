"""Webs as texts: a row for TOP, then one for each place, then one for each tie."""

from cutstairs.errors import NoText
from cutstairs.webs import is_top, is_web

FIGURES = "0123456789"
# No number of a web has more, so a longer one needn't be reckoned.
MOST_FIGURES = 3


def show_web(web):
    """The text of a web."""
    top, places, ties = web
    rows = [f"top {top}"]
    rows += [f"{name} {a}+{b} {c}-{d}" for name, a, b, c, d in places]
    rows += [f"{one} > {other} {size}" for one, other, size in ties]
    return "\n".join(rows)


def read_number(word, most):
    """The whole number that a word writes in so many figures at most, or None where it writes none."""
    if not 1 <= len(word) <= most or not all(sign in FIGURES for sign in word):
        return None
    if word[0] == "0" and word != "0":
        return None
    return int(word)


def read_two(word, sign, most):
    """The two numbers, in so many figures at most, of a word with this sign between them, or None."""
    numbers = [read_number(part, most) for part in word.split(sign)]
    if len(numbers) != 2 or None in numbers:
        return None
    return numbers


def read_top(row):
    """The number of a row `top TOP`, or None."""
    words = row.split(" ")
    if len(words) != 2 or words[0] != "top":
        return None
    return read_number(words[1], MOST_FIGURES)


def read_place(row):
    """The tuple of a row `NAME A+B C-D`, or None."""
    words = row.split(" ")
    if len(words) != 3:
        return None
    into = read_two(words[1], "+", MOST_FIGURES)
    out = read_two(words[2], "-", MOST_FIGURES)
    if into is None or out is None:
        return None
    return (words[0], *into, *out)


def read_tie(row):
    """The tuple of a row `FROM > TO SIZE`, or None."""
    words = row.split(" ")
    if len(words) != 4 or words[1] != ">":
        return None
    size = read_number(words[3], MOST_FIGURES)
    if size is None:
        return None
    return (words[0], words[2], size)


def with_row(web, row):
    """The web with one more row, which may make it none; None where the row can't stand behind it."""
    top, places, ties = web
    place = read_place(row)
    if place is not None and len(ties) == 0:
        return (top, (*places, place), ties)
    tie = read_tie(row)
    if tie is not None:
        return (top, places, (*ties, tie))
    return None


def read_web(text):
    """The web that a text writes."""
    if not isinstance(text, str):
        raise NoText(0)
    rows = text.split("\n")
    top = read_top(rows[0])
    if len(rows) == 1 or not is_top(top):
        raise NoText(0)
    web = (top, (), ())
    for at, row in enumerate(rows[1:], start=1):
        web = with_row(web, row)
        if not is_web(web):
            raise NoText(at)
    return web
