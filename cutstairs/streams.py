"""Streams: tuples (INTO, THROUGH, OUT) of fractions, for each place, tie, place."""

from cutstairs.errors import NoStream
from cutstairs.fractions import below, is_fraction, is_row, plus, total
from cutstairs.roads import DRAIN, SPRING, greatest, reached
from cutstairs.webs import names_of, sizes_at


def fits(size, thing):
    """Whether a thing of any kind is a fraction from 0 on and no more than the size."""
    return is_fraction(thing) and thing[0] >= 0 and not below(size, thing)


def all_fit(sizes, thing):
    """Whether a thing of any kind is a tuple of one fraction for each size, none more than it."""
    return is_row(thing, len(sizes)) and all(fits(size, part) for size, part in zip(sizes, thing))


def is_balanced(web, stream):
    """Whether at each place as much comes as goes."""
    into, through, out = stream
    comes = dict(zip(names_of(web), into))
    goes = dict(zip(names_of(web), out))
    for tie, part in zip(web[2], through):
        goes[tie[0]] = plus(goes[tie[0]], part)
        comes[tie[1]] = plus(comes[tie[1]], part)
    return comes == goes


def is_stream(web, price, thing):
    """Whether a thing of any kind is a stream at the price."""
    sizes = sizes_at(web, price)
    if not is_row(thing, 3):
        return False
    return all(all_fit(held, part) for held, part in zip(sizes, thing)) and is_balanced(web, thing)


def check_stream(web, price, thing):
    """Refuse what is no stream at the price."""
    if not is_stream(web, price, thing):
        raise NoStream("no stream at this price")


def stream_worth(stream):
    """All that goes in."""
    return total(stream[0])


def ends_of(web):
    """The two ends of all ties: lists for those from the spring, between places, to the drain."""
    names = names_of(web)
    return [
        [(SPRING, name) for name in names],
        [(one, other) for one, other, size in web[2]],
        [(name, DRAIN) for name in names],
    ]


def stream_at(web, price):
    """A greatest stream at the price."""
    sizes = sizes_at(web, price)
    # Times the price's bottom all sizes are whole.
    scale = price[1]
    holds = [[size[0] * (scale // size[1]) for size in part] for part in sizes]
    return greatest(ends_of(web), holds, scale)


def ways_on(ends, sizes, parts):
    """The ends of all ties that aren't full."""
    return [end for end, size, part in zip(ends, sizes, parts) if below(part, size)]


def ways_between(web, sizes, stream):
    """All (ONE, OTHER) of places where more can be led from ONE to OTHER, on or back."""
    ends = ends_of(web)[1]
    back = [(other, one) for (one, other), part in zip(ends, stream[1]) if part[0] > 0]
    return ways_on(ends, sizes[1], stream[1]) + back


def places_reached(web, start, ways):
    """The rising tuple of all places that are reached from the start."""
    names = names_of(web)
    steps = {node: [] for node in (start, *names)}
    for one, other in ways:
        steps[one].append(other)
    ahead = reached(steps, start)
    return tuple(name for name in names if name in ahead)


def led_to(web, price, stream):
    """All places to which more can be led from the spring."""
    check_stream(web, price, stream)
    sizes = sizes_at(web, price)
    first = ways_on(ends_of(web)[0], sizes[0], stream[0])
    return places_reached(web, SPRING, first + ways_between(web, sizes, stream))


def led_from(web, price, stream):
    """All places from which more can be led to the drain."""
    check_stream(web, price, stream)
    sizes = sizes_at(web, price)
    last = ways_on(ends_of(web)[2], sizes[2], stream[2])
    turned = [(other, one) for one, other in last + ways_between(web, sizes, stream)]
    return places_reached(web, DRAIN, turned)
