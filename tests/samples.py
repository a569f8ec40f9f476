"""Webs, odd things and plain reckonings that the tests share."""

from fractions import Fraction
from itertools import combinations


class Odd:
    """A thing that answers to nothing: whoever compares it or asks its length fails."""

    def __eq__(self, other):
        raise AssertionError("an odd thing was compared")

    def __lt__(self, other):
        raise AssertionError("an odd thing was compared")

    def __gt__(self, other):
        raise AssertionError("an odd thing was compared")

    def __len__(self):
        raise AssertionError("an odd thing was asked its length")

    __hash__ = None


def deep(core, wrap):
    """The core, wrapped again and again, seven times."""
    for _ in range(7):
        core = wrap(core)
    return core


def odd_things():
    """Things of many kinds, none of which is a fraction, a web, a cut or a stream."""
    return [
        None, True, False, 0, 1, -1, 7, 10 ** 30, "", "a", "aa", "0", "1/2", "top 1", b"", b"a",
        [], [0, 1], [1, 2], ["a"], {}, {"a": 1}, {0: 1, 1: 2}, {1}, frozenset([1]), Odd(), Odd, len,
        range(2), 1j,
        (None,), (0,), (1,), (True, 1), (1, True), (False, 1), (0, False), (0, 0), (1, 0), (0, 2), (2, 4), (6, 3),
        (1, -2), (-1, -2), (0, -1), ("0", "1"), ("1", 2), (1, "2"), (None, 1), (1, None), ([], 1), (1, []),
        ({}, 1), (1, {}), ([1], [2]), ((), ()), ((1,), 2), (1, (2,)), ((1, 2), (3, 4)), (Odd(), 1), (1, Odd()),
        (Odd(), Odd()), (1, 2, 3), (0, 1, 1), (0, 1, None), ([], [], []), ((), (), ()), ({}, {}, {}),
        (Odd(), Odd(), Odd()), (1, [], []), (1, {}, ()), (1, (), ()), (1, ([],), ()), (1, ({},), ()),
        (1, (None,), ()), (1, (Odd(),), ()), (1, "a", ()), (1, ("a",), ()), (1, (("a",),), ()),
        ("A",), ("zzz",), ("",), (["a"],), ({"a": 1},), (Odd(),), ("a", []), ("a", Odd()), ("a", None), (("a",),),
        ("a", 1), (1, "a"), ("a", {}), deep(1, lambda x: (x,)), deep(1, lambda x: [x]), deep([], lambda x: (x, 1)),
        deep({}, lambda x: (1, x)), deep("a", lambda x: {"a": x}), deep(Odd(), lambda x: (x, [x])),
    ]


def odd_but_numbers():
    """The odd things without the whole numbers among them."""
    return [thing for thing in odd_things() if isinstance(thing, bool) or not isinstance(thing, int)]


def odd_but_texts():
    """The odd things without the texts among them."""
    return [thing for thing in odd_things() if not isinstance(thing, str)]


class Dice:
    """Numbers that look thrown but are the same in each run."""

    def __init__(self, seed):
        self.state = seed

    def throw(self, low, high):
        self.state = (self.state * 6364136223846793005 + 1442695040888963407) % 2 ** 64
        return low + (self.state >> 33) % (high - low + 1)


NAMES = ("a", "bb", "cab", "drain", "end", "spring", "top", "zzzzzzzz")


def thrown_web(dice, great):
    """A web with numbers up to great, or up to the bounds where they are less."""
    top = dice.throw(1, 9)
    many = dice.throw(1, 8)
    skip = dice.throw(0, 8 - many)
    names = NAMES[skip:skip + many]
    places = []
    for name in names:
        d = dice.throw(0, min(great, 99))
        places.append((name, dice.throw(0, min(great, 99)), dice.throw(0, min(great, 99)),
                       dice.throw(d * top, max(d * top, great)), d))
    ties = {}
    for _ in range(dice.throw(0, 24)):
        one, other = names[dice.throw(0, many - 1)], names[dice.throw(0, many - 1)]
        if one != other and len(ties) < 16:
            ties[one, other] = dice.throw(1, great)
    return (top, tuple(places), tuple((one, other, ties[one, other]) for one, other in sorted(ties)))


PLAIN = (3, (("a", 2, 1, 9, 3), ("b", 0, 4, 12, 1)), (("a", "b", 5),))
LONE = (1, (("x", 0, 0, 0, 0),), ())
# Every cut of this one is least at the price 1.
EVEN = (2, (("a", 1, 1, 2, 0), ("b", 0, 2, 3, 1)), ())
# Ties to and fro, and a ring.
RING = (4, (("a", 30, 9, 20, 5), ("b", 0, 2, 40, 0), ("c", 7, 0, 9, 1)),
        (("a", "b", 11), ("b", "a", 4), ("b", "c", 6), ("c", "a", 3)))
# Eight places in a row.
CHAIN = (9, (("a", 99, 99, 0, 0), ("b", 0, 0, 0, 0), ("c", 0, 0, 0, 0), ("d", 0, 0, 0, 0), ("e", 0, 0, 0, 0),
             ("f", 0, 0, 0, 0), ("g", 0, 0, 0, 0), ("h", 0, 0, 999, 99)),
         (("a", "b", 999), ("b", "c", 998), ("c", "d", 997), ("d", "e", 996), ("e", "f", 995), ("f", "g", 994),
          ("g", "h", 993)))
# Great ties with a small one between: by unlucky roads it takes as many steps as the numbers are great.
TRAP = (9, (("a", 99, 99, 999, 0), ("b", 99, 99, 999, 0), ("c", 0, 0, 999, 11), ("d", 0, 0, 999, 11)),
        (("a", "b", 1), ("a", "c", 999), ("b", "a", 1), ("b", "d", 999), ("c", "d", 1), ("d", "c", 1)))
# As much as a web can have of everything.
FULL = (9, tuple((name, 99, 99, 999, 99) for name in NAMES),
        tuple(sorted((NAMES[i], NAMES[(i + by) % 8], 999) for i in range(8) for by in (1, 7))))

KEPT = (PLAIN, LONE, EVEN, RING, CHAIN, TRAP, FULL)


def eight(numbers):
    """Eight places, a to h, with these A, B, C, D each."""
    return tuple((name, *row) for name, row in zip("abcdefgh", numbers))


def tied(ends, size):
    """Ties of one size between such ends, written as texts of two names."""
    return tuple(sorted((one, other, size) for one, other in ends))


ROW_OF_EIGHT = ("ab", "bc", "cd", "de", "ef", "fg", "gh")
# One place after another comes over: as many bits as there can be.
NINE_BITS = (9, eight((0, 1, at, 0) for at in range(1, 9)), ())
NINE_BITS_SMALL = (1, eight((0, 9, at, 1) for at in range(1, 9)), ())
# Nothing holds anything: all cuts that no tie leaves are least, whatever the price.
LOOSE = (2, eight([(0, 0, 0, 0)] * 8), ())
LOOSE_ROW = (2, eight([(0, 0, 0, 0)] * 8), tied(ROW_OF_EIGHT, 1))
LOOSE_RING = (2, eight([(0, 0, 0, 0)] * 8), tied((*ROW_OF_EIGHT, "ha"), 2))
# At 1 as much comes as goes at each place.
EVEN_ROW = (2, eight([(0, 1, 1, 0)] * 8), tied(ROW_OF_EIGHT, 1))
EVEN_RING = (2, eight([(0, 1, 1, 0)] * 8), tied((*ROW_OF_EIGHT, "ha"), 1))
EVEN_PAIRS = (2, eight([(0, 1, 1, 0)] * 8), tied(("ab", "ba", "cd", "dc", "ef", "fe", "ac", "cg"), 2))
# Always, never and at the same break, out of the order of their names.
MIXED = (4, (("a", 0, 0, 5, 0), ("b", 0, 2, 4, 0), ("c", 9, 1, 3, 0), ("d", 0, 1, 2, 0), ("e", 0, 3, 3, 0),
             ("f", 1, 0, 0, 0), ("g", 0, 1, 9, 1)), ())

STAIRED = (NINE_BITS, NINE_BITS_SMALL, LOOSE, LOOSE_ROW, LOOSE_RING, EVEN_ROW, EVEN_RING, EVEN_PAIRS, MIXED)


def thrown_webs(seed, many):
    """So many webs, small numbers (where cuts are often alike) and great ones in turn."""
    dice = Dice(seed)
    return [thrown_web(dice, (1, 3, 20, 999)[at % 4]) for at in range(many)]


def small_webs(seed, many):
    """So many webs with numbers up to 2, whose cuts are often alike."""
    dice = Dice(seed)
    return [thrown_web(dice, 2) for _ in range(many)]


def sharing(web):
    """The web made one that shares."""
    return (web[0], tuple((name, 0, max(1, b), c, 0) for name, a, b, c, d in web[1]), web[2])


def prices_of(web):
    """Some prices of a web: both ends, and some between."""
    top = web[0]
    told = [Fraction(0), Fraction(top), Fraction(top, 2), Fraction(1), Fraction(1, 3), Fraction(5 * top, 7),
            Fraction(12345678901234567891, 98765432109876543211)]
    return [(price.numerator, price.denominator) for price in told]


def no_prices(web):
    """Things of many kinds that are no price of the web."""
    top = web[0]
    return odd_things() + [(-1, 1), (-1, 10 ** 19), (top + 1, 1), (top * 10 ** 19 + 1, 10 ** 19), (2 * top, 2),
                           [0, 1], [top, 1], (top, 1, 1), ((0, 1),), "0", str(top)]


def as_number(told):
    """A told fraction as Python reckons with it."""
    return Fraction(told[0], told[1])


def as_told(number):
    """A number as the program tells fractions."""
    number = Fraction(number)
    return (number.numerator, number.denominator)


def plain_cuts(web):
    """All cuts, rising, by going through all choices."""
    names = [place[0] for place in web[1]]
    return sorted(chosen for many in range(len(names) + 1) for chosen in combinations(names, many))


def plain_worth(web, cut, price):
    """What all ties from the cut's side to the other one hold."""
    at = as_number(price)
    told = Fraction(0)
    for name, a, b, c, d in web[1]:
        told += c - d * at if name in cut else a + b * at
    return told + sum(size for one, other, size in web[2] if one in cut and other not in cut)


def plain_least(web, price):
    """The least worth of all cuts, what all least ones have, and what some of them have."""
    worths = [(plain_worth(web, cut, price), cut) for cut in plain_cuts(web)]
    least = min(worths)[0]
    best = [set(cut) for worth, cut in worths if worth == least]
    return least, tuple(sorted(set.intersection(*best))), tuple(sorted(set.union(*best)))


def plain_lines(web):
    """The line (BASE, LEAN) of each cut, by its worths at 0 and 1."""
    lines = {}
    for cut in plain_cuts(web):
        base = plain_worth(web, cut, (0, 1))
        lines[cut] = (int(base), int(plain_worth(web, cut, (1, 1)) - base))
    return lines


def least_by(lines, price):
    """All cuts that have the least worth at a price, rising, by their lines."""
    top, bottom = price
    worths = {cut: base * bottom + lean * top for cut, (base, lean) in lines.items()}
    least = min(worths.values())
    return sorted(cut for cut in worths if worths[cut] == least)


def bends_between(lines, one, other):
    """The lines that are least, one after another, from one to the other, by looking where the outer ones cross."""
    if one == other:
        return [one]
    at = Fraction(other[0] - one[0], one[1] - other[1])
    middle = min(lines, key=lambda line: (line[0] + line[1] * at, line[1]))
    if middle[0] + middle[1] * at == one[0] + one[1] * at:
        return [one, other]
    return bends_between(lines, one, middle)[:-1] + bends_between(lines, middle, other)


def plain_stair(web):
    """The stair, by the lines of all cuts, from the outside inwards."""
    cuts = plain_lines(web)
    lines = set(cuts.values())
    first = min(lines)
    last = min(lines, key=lambda line: (line[0] + line[1] * web[0], -line[1]))
    row = bends_between(lines, first, last)
    breaks = [as_told(Fraction(other[0] - one[0], one[1] - other[1])) for one, other in zip(row, row[1:])]
    bits = []
    for line in row:
        have = [set(cut) for cut in cuts if cuts[cut] == line]
        bits.append((tuple(sorted(set.intersection(*have))), tuple(sorted(set.union(*have))), *line))
    return bits, breaks


def stair_prices(web):
    """0, TOP, the breaks, prices just beside them (nearer than any two breaks are) and half-way between."""
    ends = [Fraction(0), *[as_number(at) for at in plain_stair(web)[1]], Fraction(web[0])]
    near = Fraction(1, 10 ** 9)
    beside = [at + near for at in ends[:-1]] + [at - near for at in ends[1:]]
    halves = [(one + other) / 2 for one, other in zip(ends, ends[1:])]
    return [as_told(at) for at in sorted(ends + beside + halves)]
