"""Webs: tuples (TOP, PLACES, TIES), their prices, what their ties hold, and what can be led by them.

The forms of graphs and houses stand here, too: the checker, which imports the first two stages alone, asks for them.
"""

from cutstairs.errors import NoName, NoPrice
from cutstairs.fractions import below, fraction, is_between, is_fraction, is_row, on_line, plus

LETTERS = "abcdefghijklmnopqrstuvwxyz"


def is_name(thing):
    """Whether a thing of any kind is a text of one to eight small letters."""
    return isinstance(thing, str) and 1 <= len(thing) <= 8 and all(sign in LETTERS for sign in thing)


def is_rising(row):
    """Whether each of the row is more than the one ahead."""
    return all(ahead < behind for ahead, behind in zip(row, row[1:]))


def are_names(thing):
    """Whether a thing of any kind is a rising tuple of names."""
    return isinstance(thing, tuple) and all(is_name(name) for name in thing) and is_rising(thing)


def is_top(thing):
    """Whether a thing of any kind is a TOP."""
    return is_between(thing, 1, 9)


def is_place(top, thing):
    """Whether a thing of any kind is a place under this TOP."""
    if not is_row(thing, 5):
        return False
    name, a, b, c, d = thing
    if not (is_name(name) and is_between(a, 0, 99) and is_between(b, 0, 99) and is_between(d, 0, 99)):
        return False
    # Else the tie to the drain would hold less than nothing at a price up to TOP.
    return is_between(c, d * top, 999)


def is_tie(names, thing):
    """Whether a thing of any kind is a tie among places of these names."""
    if not is_row(thing, 3):
        return False
    one, other, size = thing
    if not (is_name(one) and is_name(other) and is_between(size, 1, 999)):
        return False
    return one in names and other in names and one != other


def are_places(top, thing):
    """Whether a thing of any kind is the PLACES of a web of this TOP."""
    if not (isinstance(thing, tuple) and 1 <= len(thing) <= 8):
        return False
    return all(is_place(top, place) for place in thing) and is_rising([place[0] for place in thing])


def are_ties(names, thing):
    """Whether a thing of any kind is the TIES of a web with places of these names."""
    if not (isinstance(thing, tuple) and len(thing) <= 16):
        return False
    # Rising by both ends alone, since no two ties may be alike in them.
    return all(is_tie(names, tie) for tie in thing) and is_rising([tie[:2] for tie in thing])


def is_web(thing):
    """Whether a thing of any kind is a web."""
    if not is_row(thing, 3):
        return False
    top, places, ties = thing
    return is_top(top) and are_places(top, places) and are_ties(names_of(thing), ties)


def names_of(web):
    """The names of a web's places, as a tuple."""
    return tuple(place[0] for place in web[1])


def check_name(web, thing):
    """Refuse what is no name of a place of the web."""
    if not (isinstance(thing, str) and thing in names_of(web)):
        raise NoName("no name of a place")


def does_share(web):
    """Whether the web shares."""
    return all(a == 0 and b >= 1 and d == 0 for name, a, b, c, d in web[1])


def is_price(web, thing):
    """Whether a thing of any kind is a price of the web."""
    return is_fraction(thing) and 0 <= thing[0] <= web[0] * thing[1]


def check_price(web, thing):
    """Refuse what is no price of the web."""
    if not is_price(web, thing):
        raise NoPrice("no fraction from 0 to the web's top")


def sizes_at(web, price):
    """What all ties hold at a price: tuples of fractions (INTO, THROUGH, OUT)."""
    check_price(web, price)
    into = tuple(on_line(a, b, price) for name, a, b, c, d in web[1])
    through = tuple(fraction(size, 1) for one, other, size in web[2])
    out = tuple(on_line(c, -d, price) for name, a, b, c, d in web[1])
    return (into, through, out)


def fits(size, thing):
    """Whether a thing of any kind is a fraction from 0 on and no more than the size."""
    return is_fraction(thing) and thing[0] >= 0 and not below(size, thing)


def all_fit(sizes, thing):
    """Whether a thing of any kind is a tuple of one fraction for each size, none more than it."""
    return is_row(thing, len(sizes)) and all(fits(size, part) for size, part in zip(sizes, thing))


def is_balanced(web, stream):
    """Whether at each place as much comes as goes."""
    into, through, out = stream
    comes = dict(zip(names_of(web), into))
    goes = dict(zip(names_of(web), out))
    for tie, part in zip(web[2], through):
        goes[tie[0]] = plus(goes[tie[0]], part)
        comes[tie[1]] = plus(comes[tie[1]], part)
    return comes == goes


def can_be_led(web, price, thing):
    """Whether a thing of any kind is a stream at the price."""
    sizes = sizes_at(web, price)
    if not is_row(thing, 3):
        return False
    return all(all_fit(held, part) for held, part in zip(sizes, thing)) and is_balanced(web, thing)


def is_pair(names, thing):
    """Whether a thing of any kind is a pair among these names."""
    return is_row(thing, 2) and are_names(thing) and thing[0] in names and thing[1] in names


def has_graph_form(thing):
    """Whether a thing of any kind is a graph."""
    if not is_row(thing, 2):
        return False
    names, pairs = thing
    if not (are_names(names) and 1 <= len(names) <= 7 and isinstance(pairs, tuple) and len(pairs) <= 12):
        return False
    return all(is_pair(names, pair) for pair in pairs) and is_rising(pairs)


def is_job(thing):
    """Whether a thing of any kind is (NAME, GAIN, GROWS, WANTS), whatever GAIN and GROWS are."""
    return is_row(thing, 4) and is_name(thing[0]) and are_names(thing[3])


def is_tool(thing):
    """Whether a thing of any kind is (NAME, COST, FALLS), whatever COST and FALLS are."""
    return is_row(thing, 3) and is_name(thing[0])


def are_jobs_and_tools(jobs, tools):
    """Whether two tuples are jobs and tools, names rising in both, and the jobs want these tools alone."""
    if not (all(is_job(job) for job in jobs) and all(is_tool(tool) for tool in tools)):
        return False
    names = [tool[0] for tool in tools]
    if not (is_rising([job[0] for job in jobs]) and is_rising(names)):
        return False
    return all(want in names for job in jobs for want in job[3])


def house_web(house):
    """The web of a house, whose cuts have the jobs that are done and the tools that are bought."""
    top, jobs, tools = house
    places = [(name, gain, grows, 0, 0) for name, gain, grows, wants in jobs]
    places += [(name, 0, 0, cost, falls) for name, cost, falls in tools]
    # No job earns as much as 999, so no least cut has a job without what it wants.
    ties = [(name, want, 999) for name, gain, grows, wants in jobs for want in wants]
    return (top, tuple(sorted(places, key=lambda place: place[0])), tuple(sorted(ties)))


def has_house_form(thing):
    """Whether a thing of any kind is a house."""
    if not (is_row(thing, 3) and isinstance(thing[1], tuple) and isinstance(thing[2], tuple)):
        return False
    # Its web has the house's bounds: how many places and ties, and how great all numbers.
    return are_jobs_and_tools(thing[1], thing[2]) and is_web(house_web(thing))
