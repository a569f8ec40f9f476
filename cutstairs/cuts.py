"""Cuts: rising tuples of the names of the places on the spring's side.

The places to which, and from which, more can be led by a stream stand here, too, since by a greatest stream they make
the outermost least cuts: the checker, which imports the first two stages alone, asks for them.
"""

from cutstairs.errors import NoCut
from cutstairs.fractions import below, on_line
from cutstairs.webs import check_price, is_rising, names_of

# No place can be called so.
SPRING = "<spring>"
DRAIN = "<drain>"


def is_choice(names, thing):
    """Whether a thing of any kind is a rising tuple of some of the names, perhaps none or all."""
    if not isinstance(thing, tuple):
        return False
    return all(isinstance(name, str) and name in names for name in thing) and is_rising(thing)


def is_cut(web, thing):
    """Whether a thing of any kind is a cut of the web."""
    return is_choice(names_of(web), thing)


def line_of(web, cut):
    """The line (BASE, LEAN) of a cut: its worth at L is BASE + LEAN L."""
    if not is_cut(web, cut):
        raise NoCut("no rising tuple of names of places")
    base = 0
    lean = 0
    for name, a, b, c, d in web[1]:
        if name in cut:
            base += c
            lean -= d
        else:
            base += a
            lean += b
    for one, other, size in web[2]:
        if one in cut and other not in cut:
            base += size
    return (base, lean)


def worth_of(web, cut, price):
    """What all ties from the cut's side to the other one hold at a price."""
    base, lean = line_of(web, cut)
    check_price(web, price)
    return on_line(base, lean, price)


def choices_of(things):
    """All tuples of some of the things, perhaps none or all, in their order."""
    choices = [()]
    for thing in things:
        choices = choices + [(*choice, thing) for choice in choices]
    return choices


def all_cuts(web):
    """All cuts of the web, rising as tuples are."""
    return sorted(choices_of(names_of(web)))


def pairs_among(pairs, part):
    """How many of the pairs the part has both names of."""
    return len([one for one, other in pairs if one in part and other in part])


def reached(steps, start):
    """For each node that is reached from the start the one ahead, on a road of fewest steps.

    steps has for each node a list of those to which a step goes; the start stands ahead of itself.
    """
    ahead = {start: start}
    wave = [start]
    while wave:
        following = []
        for one in wave:
            for other in steps[one]:
                if other not in ahead:
                    ahead[other] = one
                    following.append(other)
        wave = following
    return ahead


def ends_of(web):
    """The two ends of all ties: lists for those from the spring, between places, to the drain."""
    names = names_of(web)
    return [
        [(SPRING, name) for name in names],
        [(one, other) for one, other, size in web[2]],
        [(name, DRAIN) for name in names],
    ]


def ways_on(ends, sizes, parts):
    """The ends of all ties that aren't full."""
    return [end for end, size, part in zip(ends, sizes, parts) if below(part, size)]


def ways_between(web, sizes, stream):
    """All (ONE, OTHER) of places where more can be led from ONE to OTHER, on or back."""
    ends = ends_of(web)[1]
    back = [(other, one) for (one, other), part in zip(ends, stream[1]) if part[0] > 0]
    return ways_on(ends, sizes[1], stream[1]) + back


def places_reached(web, start, ways):
    """The rising tuple of all places that are reached from the start."""
    names = names_of(web)
    steps = {node: [] for node in (start, *names)}
    for one, other in ways:
        steps[one].append(other)
    ahead = reached(steps, start)
    return tuple(name for name in names if name in ahead)


def places_led_to(web, sizes, stream):
    """All places to which more can be led from the spring, by ties that hold so much."""
    first = ways_on(ends_of(web)[0], sizes[0], stream[0])
    return places_reached(web, SPRING, first + ways_between(web, sizes, stream))


def places_led_from(web, sizes, stream):
    """All places from which more can be led to the drain, by ties that hold so much."""
    last = ways_on(ends_of(web)[2], sizes[2], stream[2])
    turned = [(other, one) for one, other in last + ways_between(web, sizes, stream)]
    return places_reached(web, DRAIN, turned)


def places_without(web, some):
    """The rising tuple of all places but these."""
    return tuple(name for name in names_of(web) if name not in some)
