"""Whole numbers, and fractions: tuples (TOP, BOTTOM) in lowest terms."""

from cutstairs.errors import NoNumber


def is_whole(thing):
    """Whether a thing of any kind is an int that is no truth."""
    return isinstance(thing, int) and not isinstance(thing, bool)


def is_between(thing, least, most):
    """Whether a thing of any kind is a whole number from least to most."""
    return is_whole(thing) and least <= thing <= most


def is_row(thing, many):
    """Whether a thing of any kind is a tuple of so many."""
    return isinstance(thing, tuple) and len(thing) == many


def common_divisor(one, other):
    """The greatest divisor of both, by rests taken again and again."""
    while other != 0:
        one, other = other, one % other
    return abs(one)


def is_fraction(thing):
    """Whether a thing of any kind is a fraction."""
    if not is_row(thing, 2):
        return False
    top, bottom = thing
    return is_whole(top) and is_whole(bottom) and bottom >= 1 and common_divisor(top, bottom) == 1


def fraction(top, bottom):
    """The fraction of two whole numbers."""
    if bottom == 0:
        raise NoNumber("the bottom is 0")
    divisor = common_divisor(top, bottom)
    if bottom < 0:
        divisor = -divisor
    return (top // divisor, bottom // divisor)


def plus(a, b):
    """a and b together."""
    return fraction(a[0] * b[1] + b[0] * a[1], a[1] * b[1])


def minus(a, b):
    """a less b."""
    return fraction(a[0] * b[1] - b[0] * a[1], a[1] * b[1])


def times(a, b):
    """a multiplied by b."""
    return fraction(a[0] * b[0], a[1] * b[1])


def over(a, b):
    """a divided by b."""
    return fraction(a[0] * b[1], a[1] * b[0])


def half_way(a, b):
    """What lies just half-way from a to b."""
    return times(plus(a, b), fraction(1, 2))


def below(a, b):
    """Whether a is less than b."""
    return a[0] * b[1] < b[0] * a[1]


def total(parts):
    """All of the fractions together, 0 where there are none."""
    gathered = fraction(0, 1)
    for part in parts:
        gathered = plus(gathered, part)
    return gathered


def on_line(base, lean, at):
    """base + lean times at, of two whole numbers and a fraction."""
    return fraction(base * at[1] + lean * at[0], at[1])
