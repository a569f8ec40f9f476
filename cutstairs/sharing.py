"""The most level sharing of what a web can lead."""

from cutstairs.coming import coming_order
from cutstairs.errors import NoShare
from cutstairs.fractions import fraction, times
from cutstairs.webs import does_share


def check_shares(web):
    """Refuse a web that doesn't share."""
    if not does_share(web):
        raise NoShare("some A or D isn't 0, or some B is 0")


def level_by(top, when):
    """The share by its B of a place that comes over then."""
    if when == ("always",):
        return fraction(0, 1)
    if when == ("never",):
        return fraction(top, 1)
    return when[1]


def rising_levels(web):
    """All places of a web that shares as tuples (LEVEL, NAME), rising."""
    check_shares(web)
    return [(level_by(web[0], when), name) for when, name in coming_order(web)]


def shares_of(web):
    """The level shares, one for each place."""
    levels = {name: level for level, name in rising_levels(web)}
    return tuple(times(fraction(b, 1), levels[name]) for name, a, b, c, d in web[1])


def levels_of(web):
    """The levels of the shares, rising: tuples (LEVEL, NAMES)."""
    names = {}
    for level, name in rising_levels(web):
        names[level] = (*names.get(level, ()), name)
    return list(names.items())
