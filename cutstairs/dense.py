"""The densest and the thickest part of a graph, and leans by which no part is more so."""

from cutstairs.cuts import DRAIN, SPRING, choices_of
from cutstairs.errors import NoPart
from cutstairs.fractions import below, fraction
from cutstairs.graphs import within
from cutstairs.roads import greatest


def best_part(graph, less):
    """The most pairs by names less so many, and a part that has it: (WORTH, PART)."""
    parts = [part for part in choices_of(graph[0]) if len(part) > less]
    best = None
    # Greater parts first, so that of several best ones a greatest is kept.
    for part in sorted(parts, key=len, reverse=True):
        worth = fraction(within(graph, part), len(part) - less)
        if best is None or below(best[0], worth):
            best = (worth, part)
    return best


def densest(graph):
    """The greatest density, and the greatest part that has it: (WORTH, PART)."""
    return best_part(graph, 0)


def thickest(graph):
    """The greatest thickness, and a part that has it: (WORTH, PART)."""
    if len(graph[0]) < 2:
        raise NoPart("no part has two names")
    return best_part(graph, 1)


def leans_by(graph, worth, spared):
    """Leans that lay no more than worth on any name, and nothing on the spared one (None spares none)."""
    names, pairs = graph
    # Times the bottom of worth all sizes are whole.
    most, scale = worth
    ones = [scale] * len(pairs)
    ends = [
        [(SPRING, pair) for pair in pairs],
        [(pair, pair[0]) for pair in pairs],
        [(pair, pair[1]) for pair in pairs],
        [(name, DRAIN) for name in names],
    ]
    holds = [ones, ones, ones, [0 if name == spared else most for name in names]]
    return greatest(ends, holds, scale)[1]


def density_leans(graph):
    """Leans by which no name bears more than the greatest density."""
    worth, part = densest(graph)
    return leans_by(graph, worth, None)


def thickness_leans(graph):
    """For each name leans that lay nothing on it, and no more than the greatest thickness on any other."""
    worth, part = thickest(graph)
    return tuple(leans_by(graph, worth, name) for name in graph[0])
