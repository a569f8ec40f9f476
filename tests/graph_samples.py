"""Graphs that the tests share."""

from itertools import combinations

from samples import Dice

SEVEN = "abcdefg"


def graph(names, pairs):
    """A graph of names and pairs that are written as texts of two letters."""
    return (tuple(names), tuple(sorted((pair[0], pair[1]) for pair in pairs)))


def every_pair(names):
    """All pairs among names."""
    return graph(names, combinations(names, 2))


def row_of(names):
    return graph(names, zip(names, names[1:]))


def ring_of(names):
    return graph(names, [*zip(names, names[1:]), (names[0], names[-1])])


ONE = graph("a", [])
TWO = graph("ab", [])
TIED_TWO = graph("ab", ["ab"])
# All pairs among four, and two more names that hang on them.
TAIL = graph("abcdef", ["ab", "ac", "ad", "bc", "bd", "cd", "de", "ef"])
# Two triangles apart, as dense as each other.
APART = graph("abcdef", ["ab", "ac", "bc", "de", "df", "ef"])
# Two triangles with one name in common.
TOUCHING = graph("abcde", ["ab", "ac", "bc", "cd", "ce", "de"])
STAR = graph(SEVEN, ["ab", "ac", "ad", "ae", "af", "ag"])
# As many names and pairs as there can be.
FULLEST = graph(SEVEN, ["ab", "ac", "ad", "ae", "bc", "bd", "be", "cd", "ce", "de", "ef", "fg"])
LONG_NAMES = (("a", "aa", "ab", "spring", "zzzzzzzz"),
              (("a", "aa"), ("a", "spring"), ("aa", "ab"), ("aa", "zzzzzzzz"), ("ab", "spring")))

KEPT_GRAPHS = (
    ONE, TWO, TIED_TWO, TAIL, APART, TOUCHING, STAR, FULLEST, LONG_NAMES, graph(SEVEN, []), graph("abc", []),
    *[row_of(SEVEN[:many]) for many in range(3, 8)],
    *[ring_of(SEVEN[:many]) for many in range(3, 8)],
    *[every_pair(SEVEN[:many]) for many in range(3, 6)],
)


def graphs_of_four():
    """All graphs of four names."""
    pairs = list(combinations("abcd", 2))
    return [graph("abcd", chosen) for many in range(7) for chosen in combinations(pairs, many)]


def thrown_graphs(seed, many):
    """So many graphs of two to seven names that look thrown."""
    dice = Dice(seed)
    told = []
    for _ in range(many):
        names = SEVEN[:dice.throw(2, 7)]
        pairs = list(combinations(names, 2))
        chosen = {pairs[dice.throw(0, len(pairs) - 1)] for _ in range(dice.throw(0, 20))}
        told.append(graph(names, sorted(chosen)[:12]))
    return told
