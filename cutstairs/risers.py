"""Risers: a price of a web that only rises, and a greatest stream kept at it."""

from cutstairs.errors import NoFall
from cutstairs.fractions import below, fraction
from cutstairs.streams import led_to, stream_at, stream_worth
from cutstairs.webs import check_price


class Riser:
    """A web with a price, at first 0, and a greatest stream at it."""

    def __init__(self, web):
        self.risen_web = web
        self.reached_price = fraction(0, 1)
        self.best_stream = stream_at(web, self.reached_price)

    def rise(self, price):
        """Raise the price, or leave it the same."""
        check_price(self.risen_web, price)
        if below(price, self.reached_price):
            raise NoFall("a riser's price doesn't fall")
        self.best_stream = stream_at(self.risen_web, price)
        self.reached_price = price

    def price(self):
        """The price that is reached."""
        return self.reached_price

    def worth(self):
        """The least worth at the price."""
        return stream_worth(self.best_stream)

    def cut(self):
        """The least cut nearest the spring at the price."""
        return led_to(self.risen_web, self.reached_price, self.best_stream)

    def stream(self):
        """A greatest stream at the price."""
        return self.best_stream
