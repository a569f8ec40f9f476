"""The house's papers: for each question the true claim and the paper with which the checker takes it."""

from cutstairs.coming import all_goes
from cutstairs.dense import densest, density_leans, thickest, thickness_leans
from cutstairs.fractions import fraction, half_way
from cutstairs.houses import best_jobs
from cutstairs.least import most_cut
from cutstairs.shapes import many_cuts
from cutstairs.sharing import shares_of
from cutstairs.stairs import stair_of
from cutstairs.streams import led_to, stream_at, stream_within, stream_worth
from cutstairs.webs import house_web, sizes_at


def paper_worth(web, price):
    """The least worth at a price, with a stream and a cut that have it."""
    stream = stream_at(web, price)
    return (("worth", web, price, stream_worth(stream)), (stream, led_to(web, price, stream)))


def paper_least(web, price):
    """The least cut nearest the spring, with a greatest stream."""
    stream = stream_at(web, price)
    return (("least", web, price, led_to(web, price, stream)), stream)


def paper_most(web, price):
    """The least cut nearest the drain, with a greatest stream."""
    return (("most", web, price, most_cut(web, price)), stream_at(web, price))


def paper_cuts(web, price):
    """How many least cuts there are, with a greatest stream."""
    return (("cuts", web, price, many_cuts(web, price)), stream_at(web, price))


def paper_stair(web):
    """The stair, with greatest streams at 0, the breaks and TOP, and half-way between them."""
    bits, breaks = stair_of(web)
    marks = [fraction(0, 1), *breaks, fraction(web[0], 1)]
    ends = tuple(stream_at(web, at) for at in marks)
    middles = tuple(stream_at(web, half_way(ahead, behind)) for ahead, behind in zip(marks, marks[1:]))
    return (("stair", web, tuple(bits), tuple(breaks)), (ends, middles))


def paper_goes(web):
    """Until when all goes, with a stream and a cut that shows that no more goes; or never, with a cut."""
    told = all_goes(web)
    if told == ("never",):
        return (("never", web), most_cut(web, fraction(0, 1)))
    price = told[1]
    # The least cut nearest the drain is the one that is least just behind the price, too.
    cut = None if price == fraction(web[0], 1) else most_cut(web, price)
    return (("until", web, price), (stream_at(web, price), cut))


def paper_shares(web):
    """The level shares, with a stream by which they go."""
    shares = shares_of(web)
    into, through, out = sizes_at(web, fraction(web[0], 1))
    return (("shares", web, shares), stream_within(web, (shares, through, out)))


def paper_densest(graph):
    """The greatest density, with a part that has it and leans."""
    worth, part = densest(graph)
    return (("densest", graph, worth), (part, density_leans(graph)))


def paper_thickest(graph):
    """The greatest thickness, with a part that has it and leans for each name."""
    worth, part = thickest(graph)
    return (("thickest", graph, worth), (part, thickness_leans(graph)))


def paper_earns(house, price):
    """The most that can be earned at a price, with jobs that earn it and a stream in the web of the house."""
    earns, done = best_jobs(house, price)
    return (("earns", house, price, earns), (done, stream_at(house_web(house), price)))
