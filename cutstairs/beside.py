"""Two webs beside each other: where the one's least worth is less than the other's, the same, or more."""

from cutstairs.errors import NoTop
from cutstairs.fractions import below, fraction, half_way
from cutstairs.stairs import line_on, meeting, stair_of, worth_on


def word_at(stairs, price):
    """What the first stair's least worth is to the second one's at a price."""
    one, other = [worth_on(stair, price) for stair in stairs]
    if below(one, other):
        return "less"
    if below(other, one):
        return "more"
    return "same"


def end_behind(stairs, start, top):
    """The first price behind start at which a stair bends or both lines meet, or TOP where there is none."""
    ends = stairs[0][1] + stairs[1][1]
    one, other = [line_on(stair, start) for stair in stairs]
    if one[1] != other[1]:
        ends.append(meeting(one, other))
    first = top
    for end in ends:
        if below(start, end) and below(end, first):
            first = end
    return first


def joined(stairs, stretches):
    """The stretches, with two of one word made one unless the word is another at the price between them."""
    told = []
    for start, end, word in stretches:
        if told and told[-1][2] == word and word_at(stairs, start) == word:
            told[-1] = (told[-1][0], end, word)
        else:
            told.append((start, end, word))
    return told


def beside(web, other):
    """The stretches (FROM, TO, WORD) of two webs of one TOP, from 0 to TOP."""
    if web[0] != other[0]:
        raise NoTop("the webs have unlike tops")
    stairs = [stair_of(web), stair_of(other)]
    top = fraction(web[0], 1)
    start = fraction(0, 1)
    stretches = []
    while below(start, top):
        end = end_behind(stairs, start, top)
        # Strictly between start and end the word doesn't change, so any price there tells it.
        stretches.append((start, end, word_at(stairs, half_way(start, end))))
        start = end
    return joined(stairs, stretches)
