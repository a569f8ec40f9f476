"""Graphs: tuples (NAMES, PAIRS), and the pairs within a part."""

from cutstairs.fractions import is_row
from cutstairs.webs import is_name, is_rising


def are_names(thing):
    """Whether a thing of any kind is the NAMES of a graph."""
    if not (isinstance(thing, tuple) and 1 <= len(thing) <= 7):
        return False
    return all(is_name(name) for name in thing) and is_rising(thing)


def is_pair(names, thing):
    """Whether a thing of any kind is a pair among these names."""
    if not is_row(thing, 2):
        return False
    one, other = thing
    return is_name(one) and is_name(other) and one < other and one in names and other in names


def is_graph(thing):
    """Whether a thing of any kind is a graph."""
    if not is_row(thing, 2):
        return False
    names, pairs = thing
    if not (are_names(names) and isinstance(pairs, tuple) and len(pairs) <= 12):
        return False
    return all(is_pair(names, pair) for pair in pairs) and is_rising(pairs)


def within(graph, part):
    """How many pairs are within a part."""
    return len([pair for pair in graph[1] if pair[0] in part and pair[1] in part])
