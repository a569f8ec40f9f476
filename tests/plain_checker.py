"""Whether a claim is true and its paper right, by going through all cuts, parts and sets of jobs.

What may be asked here was tested elsewhere: whether a thing is a web, a price, a stream, a cut, a graph, a house.
"""

from functools import lru_cache
from itertools import combinations

from cutstairs.cuts import is_cut
from cutstairs.fractions import is_fraction
from cutstairs.graphs import is_graph
from cutstairs.houses import is_house
from cutstairs.sharing import shares_of
from cutstairs.streams import is_stream
from cutstairs.webs import is_price, is_web
from house_samples import line_earned, plain_best
from samples import as_number, as_told, plain_cuts, plain_least, plain_stair, plain_worth


@lru_cache(maxsize=None)
def least_of(web, price):
    return plain_least(web, price)


@lru_cache(maxsize=None)
def stair_of(web):
    return plain_stair(web)


@lru_cache(maxsize=None)
def level_shares(web):
    return shares_of(web)


def is_plain(thing):
    """Whether a thing is made of tuples, texts, whole numbers and None alone."""
    if isinstance(thing, tuple):
        return all(is_plain(part) for part in thing)
    return thing is None or isinstance(thing, str) or (isinstance(thing, int) and not isinstance(thing, bool))


def is_long(thing, many):
    return isinstance(thing, tuple) and len(thing) == many


def stream_sum(stream):
    return sum(as_number(part) for part in stream[0])


def is_greatest(web, price, thing):
    return is_stream(web, price, thing) and stream_sum(thing) == least_of(web, price)[0]


def asks(claim, many):
    return len(claim) == many and is_web(claim[1]) and is_price(claim[1], claim[2])


def true_worth(claim, paper):
    if not (asks(claim, 4) and is_long(paper, 2)):
        return False
    web, price, worth = claim[1:]
    if worth != as_told(least_of(web, price)[0]):
        return False
    return is_greatest(web, price, paper[0]) and is_cut(web, paper[1]) and (
        as_told(plain_worth(web, paper[1], price)) == worth)


def true_least(claim, paper):
    return asks(claim, 4) and claim[3] == least_of(claim[1], claim[2])[1] and is_greatest(claim[1], claim[2], paper)


def true_most(claim, paper):
    return asks(claim, 4) and claim[3] == least_of(claim[1], claim[2])[2] and is_greatest(claim[1], claim[2], paper)


def true_cuts(claim, paper):
    if not asks(claim, 4):
        return False
    web, price, many = claim[1:]
    least = least_of(web, price)[0]
    alike = [cut for cut in plain_cuts(web) if plain_worth(web, cut, price) == least]
    return many == len(alike) and is_greatest(web, price, paper)


def true_stair(claim, paper):
    if not (len(claim) == 4 and is_web(claim[1]) and is_long(paper, 2)):
        return False
    web = claim[1]
    bits, breaks = stair_of(web)
    if claim[2] != tuple(bits) or claim[3] != tuple(breaks):
        return False
    marks = [(0, 1), *breaks, (web[0], 1)]
    halves = [as_told((as_number(one) + as_number(other)) / 2) for one, other in zip(marks, marks[1:])]
    return all(is_long(row, len(at)) and all(is_greatest(web, *both) for both in zip(at, row))
               for at, row in zip((marks, halves), paper))


def true_until(claim, paper):
    if not (asks(claim, 3) and is_long(paper, 2)):
        return False
    web, price = claim[1:]
    stream, cut = paper
    at = as_number(price)
    full = tuple(as_told(a + b * at) for name, a, b, c, d in web[1])
    if not (is_stream(web, price, stream) and stream[0] == full):
        return False
    if at == web[0]:
        return cut is None
    if not (is_cut(web, cut) and plain_worth(web, cut, price) == plain_worth(web, (), price)):
        return False
    return plain_worth(web, cut, (web[0], 1)) < plain_worth(web, (), (web[0], 1))


def true_never(claim, paper):
    if not (len(claim) == 2 and is_web(claim[1]) and is_cut(claim[1], paper)):
        return False
    return plain_worth(claim[1], paper, (0, 1)) < plain_worth(claim[1], (), (0, 1))


def true_shares(claim, paper):
    if not (len(claim) == 3 and is_web(claim[1])):
        return False
    web, shares = claim[1:]
    if not all(a == 0 and b >= 1 and d == 0 for name, a, b, c, d in web[1]):
        return False
    return shares == level_shares(web) and is_stream(web, (web[0], 1), paper) and paper[0] == shares


def measure(graph, part, less):
    pairs = [pair for pair in graph[1] if set(pair) <= set(part)]
    return as_told(as_number((len(pairs), len(part) - less)))


def greatest_measure(graph, less):
    names = graph[0]
    return max(as_number(measure(graph, part, less)) for many in range(less + 1, len(names) + 1)
               for part in combinations(names, many))


def right_leans(graph, worth, spared, thing):
    if not (is_long(thing, len(graph[1])) and all(is_fraction(lean) for lean in thing)):
        return False
    leans = [as_number(lean) for lean in thing]
    borne = dict.fromkeys(graph[0], 0)
    for (one, other), lean in zip(graph[1], leans):
        borne[one] += lean
        borne[other] += 1 - lean
    most = {name: 0 if name == spared else as_number(worth) for name in graph[0]}
    return all(0 <= lean <= 1 for lean in leans) and all(borne[name] <= most[name] for name in borne)


def is_part(graph, less, thing):
    if not (isinstance(thing, tuple) and all(isinstance(name, str) for name in thing)):
        return False
    return len(thing) > less and list(thing) == sorted(set(thing)) and set(thing) <= set(graph[0])


def asks_graph(claim, paper, less):
    if not (len(claim) == 3 and is_graph(claim[1]) and len(claim[1][0]) > less and is_long(paper, 2)):
        return False
    graph, worth = claim[1:]
    if worth != as_told(greatest_measure(graph, less)):
        return False
    return is_part(graph, less, paper[0]) and measure(graph, paper[0], less) == worth


def true_densest(claim, paper):
    return asks_graph(claim, paper, 0) and right_leans(claim[1], claim[2], None, paper[1])


def true_thickest(claim, paper):
    if not (asks_graph(claim, paper, 1) and is_long(paper[1], len(claim[1][0]))):
        return False
    return all(right_leans(claim[1], claim[2], name, leans) for name, leans in zip(claim[1][0], paper[1]))


def plain_house_web(house):
    """The web of a house by the words of the document."""
    jobs = [(name, gain, grows, 0, 0) for name, gain, grows, wants in house[1]]
    tools = [(name, 0, 0, cost, falls) for name, cost, falls in house[2]]
    ties = [(job[0], want, 999) for job in house[1] for want in job[3]]
    return (house[0], tuple(sorted(jobs + tools)), tuple(sorted(ties)))


def true_earns(claim, paper):
    if not (len(claim) == 4 and is_house(claim[1]) and is_price(claim[1], claim[2]) and is_long(paper, 2)):
        return False
    house, price, worth = claim[1:]
    at = as_number(price)
    if worth != as_told(plain_best(house, at)[0]):
        return False
    if not is_part((tuple(job[0] for job in house[1]), ()), -1, paper[0]):
        return False
    base, lean = line_earned(house, paper[0])
    web = plain_house_web(house)
    every = sum(gain + grows * at for name, gain, grows, wants in house[1])
    return base + lean * at == as_number(worth) and is_stream(web, price, paper[1]) and (
        stream_sum(paper[1]) == every - as_number(worth))


TRUTHS = {
    "worth": true_worth, "least": true_least, "most": true_most, "cuts": true_cuts, "stair": true_stair,
    "until": true_until, "never": true_never, "shares": true_shares, "densest": true_densest,
    "thickest": true_thickest, "earns": true_earns,
}


def plain_holds(claim, paper):
    """Whether the checker should take a claim with its paper."""
    if not (is_plain(claim) and is_plain(paper) and isinstance(claim, tuple) and claim):
        return False
    if not (isinstance(claim[0], str) and claim[0] in TRUTHS):
        return False
    return TRUTHS[claim[0]](claim, paper)
