"""The stair of a web: the least cuts and their lines for all prices at once."""

from cutstairs.cuts import all_cuts, line_of
from cutstairs.fractions import below, fraction, on_line
from cutstairs.webs import check_price


def cuts_by_line(web):
    """All cuts of the web, in lists by their lines."""
    cuts = {}
    for cut in all_cuts(web):
        line = line_of(web, cut)
        if line not in cuts:
            cuts[line] = []
        cuts[line].append(cut)
    return cuts


def meeting(line, other):
    """The price at which a line is met by another one of unlike LEAN."""
    return fraction(other[0] - line[0], line[1] - other[1])


def is_met_first(line, one, other):
    """Whether the line is met by one ahead of the other, or by both at once and one's LEAN is less."""
    at = meeting(line, one)
    limit = meeting(line, other)
    return below(at, limit) or (at == limit and one[1] < other[1])


def line_behind(lines, line):
    """The line that goes on where this one is first met, or None where all LEANs are as great."""
    first = None
    for other in lines:
        if other[1] < line[1] and (first is None or is_met_first(line, other, first)):
            first = other
    return first


def bit_of(cuts, line):
    """The bit of a line, by the cuts that have it."""
    # Of all least cuts one lies within all others and one has all others within it.
    return (min(cuts, key=len), max(cuts, key=len), line[0], line[1])


def stair_of(web):
    """The stair (BITS, BREAKS) of a web."""
    cuts = cuts_by_line(web)
    lines = list(cuts)
    top = fraction(web[0], 1)
    # The least BASE is the least worth at 0, and of several the least LEAN the least just behind it.
    line = min(lines)
    bits = [bit_of(cuts[line], line)]
    breaks = []
    behind = line_behind(lines, line)
    while behind is not None and below(meeting(line, behind), top):
        breaks.append(meeting(line, behind))
        bits.append(bit_of(cuts[behind], behind))
        line = behind
        behind = line_behind(lines, line)
    return (bits, breaks)


def bits_beside(breaks, price):
    """The numbers of the bits that have the least worth at a price: two at a break, else one."""
    number = len([at for at in breaks if below(at, price)])
    if price in breaks:
        return [number, number + 1]
    return [number]


def line_on(stair, price):
    """The line that has the least worth at a price, and just behind it where that is no more than TOP."""
    bits, breaks = stair
    cut, most, base, lean = bits[bits_beside(breaks, price)[-1]]
    return (base, lean)


def worth_on(stair, price):
    """The least worth at a price, by a stair."""
    base, lean = line_on(stair, price)
    return on_line(base, lean, price)


def worth_by(web, price):
    """The least worth at a price, told by the stair."""
    check_price(web, price)
    return worth_on(stair_of(web), price)


def bits_at(web, price):
    """The numbers, rising, of the bits that have the least worth at a price."""
    check_price(web, price)
    bits, breaks = stair_of(web)
    return bits_beside(breaks, price)
