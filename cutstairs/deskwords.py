"""The desk's words: how its rows are read, and how what they ask for is told."""

from cutstairs.errors import NoRow
from cutstairs.fractions import is_fraction
from cutstairs.webs import is_name
from cutstairs.webtexts import read_number, read_two

MOST_FIGURES = 6

# For each word with which a row begins, what the words behind it write.
ROWS = {
    "put": ("name", "number", "number", "number", "number"),
    "take": ("name",),
    "tie": ("name", "name", "number"),
    "untie": ("name", "name"),
    "top": ("number",),
    "undo": (),
    "web": (),
    "worth": ("price",),
    "least": ("price",),
    "most": ("price",),
    "cuts": ("price",),
    "stair": (),
    "over": ("name",),
    "goes": (),
    "shares": (),
    "paper": ("paper",),
}


def read_price(word):
    """The fraction that a word writes as a price, or None."""
    whole = read_number(word, MOST_FIGURES)
    if whole is not None:
        return (whole, 1)
    parts = read_two(word, "/", MOST_FIGURES)
    if parts is None or parts[1] < 2 or not is_fraction(tuple(parts)):
        return None
    return tuple(parts)


def read_word(kind, word):
    """What a word writes of this kind, or None."""
    if kind == "number":
        return read_number(word, MOST_FIGURES)
    if kind == "price":
        return read_price(word)
    if kind == "name":
        return word if is_name(word) else None
    return word if word in ("stair", "goes", "shares") else None


def read_row(row):
    """The word with which a row begins, and a list of what those behind it write."""
    if not isinstance(row, str):
        raise NoRow("no text")
    word, *rest = row.split(" ")
    if word not in ROWS or len(rest) != len(ROWS[word]):
        raise NoRow("another word or number of words")
    read = [read_word(kind, part) for kind, part in zip(ROWS[word], rest)]
    if None in read:
        raise NoRow("no name, number or price where one should be")
    return (word, read)


def show_fraction(told):
    """A fraction as prices are written."""
    top, bottom = told
    return f"{top}" if bottom == 1 else f"{top}/{bottom}"


def show_fractions(row):
    """Fractions with blanks between."""
    return " ".join([show_fraction(told) for told in row])


def show_names(names):
    """Names with blanks between, or `none`."""
    return " ".join(names) if names else "none"


def show_bit(bit):
    """A bit of a stair: its CUT and its line."""
    cut, most, base, lean = bit
    sign = "-" if lean < 0 else "+"
    return f"{show_names(cut)}: {base}{sign}{abs(lean)}"


def show_stair(stair):
    """The bits of a stair with the breaks between them."""
    bits, breaks = stair
    words = [show_bit(bits[0])]
    for at, bit in zip(breaks, bits[1:]):
        words += [show_fraction(at), show_bit(bit)]
    return " | ".join(words)


def show_when(when):
    """`always`, `never` or the price, of a tuple whose word may have a price behind it."""
    return show_fraction(when[1]) if len(when) == 2 else when[0]
