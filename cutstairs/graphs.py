"""Graphs: tuples (NAMES, PAIRS), and the pairs within a part."""

from cutstairs.cuts import pairs_among
from cutstairs.webs import has_graph_form


def is_graph(thing):
    """Whether a thing of any kind is a graph."""
    return has_graph_form(thing)


def within(graph, part):
    """How many pairs are within a part."""
    return pairs_among(graph[1], part)
