"""The least worth of all cuts at a price, and the two outermost cuts that have it."""

from cutstairs.cuts import places_without
from cutstairs.streams import led_from, led_to, stream_at, stream_worth


def least_worth(web, price):
    """The least worth of all cuts at a price."""
    return stream_worth(stream_at(web, price))


def least_cut(web, price):
    """The least cut nearest the spring."""
    return led_to(web, price, stream_at(web, price))


def most_cut(web, price):
    """The least cut nearest the drain."""
    return places_without(web, led_from(web, price, stream_at(web, price)))
