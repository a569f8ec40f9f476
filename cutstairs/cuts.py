"""Cuts: rising tuples of the names of the places on the spring's side."""

from cutstairs.errors import NoCut
from cutstairs.fractions import on_line
from cutstairs.webs import check_price, is_rising, names_of


def is_cut(web, thing):
    """Whether a thing of any kind is a cut of the web."""
    if not isinstance(thing, tuple):
        return False
    names = names_of(web)
    return all(isinstance(name, str) and name in names for name in thing) and is_rising(thing)


def line_of(web, cut):
    """The line (BASE, LEAN) of a cut: its worth at L is BASE + LEAN L."""
    if not is_cut(web, cut):
        raise NoCut("no rising tuple of names of places")
    base = 0
    lean = 0
    for name, a, b, c, d in web[1]:
        if name in cut:
            base += c
            lean -= d
        else:
            base += a
            lean += b
    for one, other, size in web[2]:
        if one in cut and other not in cut:
            base += size
    return (base, lean)


def worth_of(web, cut, price):
    """What all ties from the cut's side to the other one hold at a price."""
    base, lean = line_of(web, cut)
    check_price(web, price)
    return on_line(base, lean, price)


def choices_of(things):
    """All tuples of some of the things, perhaps none or all, in their order."""
    choices = [()]
    for thing in things:
        choices = choices + [(*choice, thing) for choice in choices]
    return choices


def all_cuts(web):
    """All cuts of the web, rising as tuples are."""
    return sorted(choices_of(names_of(web)))
