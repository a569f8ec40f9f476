"""The least worth of all cuts at a price, and the two outermost cuts that have it."""

from cutstairs.streams import led_from, led_to, stream_at, stream_worth
from cutstairs.webs import names_of


def least_worth(web, price):
    """The least worth of all cuts at a price."""
    return stream_worth(stream_at(web, price))


def least_cut(web, price):
    """The least cut nearest the spring."""
    return led_to(web, price, stream_at(web, price))


def most_cut(web, price):
    """The least cut nearest the drain."""
    outside = led_from(web, price, stream_at(web, price))
    return tuple(name for name in names_of(web) if name not in outside)
