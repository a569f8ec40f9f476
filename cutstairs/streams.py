"""Streams: tuples (INTO, THROUGH, OUT) of fractions, for each place, tie, place."""

from cutstairs.cuts import ends_of, places_led_from, places_led_to
from cutstairs.errors import NoStream
from cutstairs.fractions import common_divisor, total
from cutstairs.roads import greatest
from cutstairs.webs import can_be_led, sizes_at


def is_stream(web, price, thing):
    """Whether a thing of any kind is a stream at the price."""
    return can_be_led(web, price, thing)


def check_stream(web, price, thing):
    """Refuse what is no stream at the price."""
    if not is_stream(web, price, thing):
        raise NoStream("no stream at this price")


def stream_worth(stream):
    """All that goes in."""
    return total(stream[0])


def stream_within(web, sizes):
    """A greatest stream by ties that hold so much."""
    # Times a common multiple of their bottoms all sizes are whole.
    scale = 1
    for part in sizes:
        for top, bottom in part:
            scale = scale // common_divisor(scale, bottom) * bottom
    holds = [[top * (scale // bottom) for top, bottom in part] for part in sizes]
    return greatest(ends_of(web), holds, scale)


def stream_at(web, price):
    """A greatest stream at the price."""
    return stream_within(web, sizes_at(web, price))


def led_to(web, price, stream):
    """All places to which more can be led from the spring."""
    check_stream(web, price, stream)
    return places_led_to(web, sizes_at(web, price), stream)


def led_from(web, price, stream):
    """All places from which more can be led to the drain."""
    check_stream(web, price, stream)
    return places_led_from(web, sizes_at(web, price), stream)
