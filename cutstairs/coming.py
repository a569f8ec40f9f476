"""When each place comes over to the spring's side, and until when all goes."""

from cutstairs.cuts import line_of
from cutstairs.fractions import fraction
from cutstairs.stairs import stair_of
from cutstairs.webs import check_name, names_of


def bits_without(bits, name):
    """How many bits have a CUT that lacks the place; since each CUT grows, they are the first ones."""
    return len([bit for bit in bits if name not in bit[0]])


def when_behind(breaks, many):
    """When a place comes over that so many bits lack."""
    if many == 0:
        return ("always",)
    if many > len(breaks):
        return ("never",)
    return ("at", breaks[many - 1])


def comes_over(web, name):
    """When a place comes over: ("always",), ("at", BREAK) or ("never",)."""
    check_name(web, name)
    bits, breaks = stair_of(web)
    return when_behind(breaks, bits_without(bits, name))


def coming_order(web):
    """All places as tuples (WHEN, NAME), in the order in which they come over."""
    bits, breaks = stair_of(web)
    order = sorted([(bits_without(bits, name), name) for name in names_of(web)])
    return [(when_behind(breaks, many), name) for many, name in order]


def all_goes(web):
    """("until", PRICE), the greatest price at which all goes, or ("never",)."""
    bits, breaks = stair_of(web)
    cut, most, base, lean = bits[0]
    # All goes just where no cut is worth less than (), and only () lies within all others.
    if cut == ():
        return ("until", breaks[0] if breaks else fraction(web[0], 1))
    if line_of(web, ())[0] == base:
        return ("until", fraction(0, 1))
    return ("never",)
