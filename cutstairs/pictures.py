"""Pictures: tuples of texts of figures, and their two tones at every price."""

from cutstairs.errors import NoNumber
from cutstairs.fractions import is_between
from cutstairs.stairs import stair_of
from cutstairs.webs import LETTERS
from cutstairs.webtexts import FIGURES


def is_picture(thing):
    """Whether a thing of any kind is a picture."""
    if not (isinstance(thing, tuple) and all(isinstance(row, str) for row in thing)):
        return False
    figures = "".join(thing)
    if not (1 <= len(figures) <= 8 and all(sign in FIGURES for sign in figures)):
        return False
    return all(len(row) == len(thing[0]) for row in thing)


def spots_beside(picture):
    """All pairs of the numbers of spots beside or below each other, counted row by row from 0."""
    wide = len(picture[0])
    many = wide * len(picture)
    level = [(at, at + 1) for at in range(many) if (at + 1) % wide != 0]
    return level + [(at, at + wide) for at in range(many - wide)]


def picture_web(picture, smooth):
    """The web whose cuts are the dark spots, each called by the letter of its number."""
    places = tuple((LETTERS[at], 0, 1, int(figure), 0) for at, figure in enumerate("".join(picture)))
    ends = spots_beside(picture)
    # To and fro, since unlike tones cost the same whichever of the two is dark.
    both = sorted(ends + [(other, one) for one, other in ends])
    ties = tuple((LETTERS[one], LETTERS[other], smooth) for one, other in both)
    return (9, places, ties)


def tones_by(picture, cut):
    """The picture in two tones, dark where the cut has the spot."""
    wide = len(picture[0])
    signs = "".join("#" if letter in cut else "." for letter in LETTERS[:wide * len(picture)])
    return tuple(signs[at:at + wide] for at in range(0, len(signs), wide))


def tones_of(picture, smooth):
    """For each stretch of prices the picture in two tones, and the breaks: (TONES, BREAKS)."""
    if not is_between(smooth, 0, 99):
        raise NoNumber("no whole number from 0 to 99")
    bits, breaks = stair_of(picture_web(picture, smooth))
    return ([tones_by(picture, bit[0]) for bit in bits], breaks)
