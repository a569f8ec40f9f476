"""The checker: it takes a claim with its paper, or not, and trusts nobody.

Whatever is handed in may be of any kind. A stream is worth no more than a cut, so where both are worth the same the
stream is a greatest one and the cut a least one.
"""

from cutstairs.cuts import (
    all_cuts, is_choice, is_cut, line_of, pairs_among, places_led_from, places_led_to, places_reached, places_without,
    ways_between, worth_of,
)
from cutstairs.fractions import (
    below, fraction, half_way, is_fraction, is_row, is_whole, minus, on_line, over, plus, total,
)
from cutstairs.webs import (
    all_fit, can_be_led, does_share, has_graph_form, has_house_form, house_web, is_price, is_web, sizes_at,
)


def is_of_web(claim, many):
    """Whether a claim is so long and has a web behind its word."""
    return is_row(claim, many) and is_web(claim[1])


def is_at_price(claim, many):
    """Whether a claim is so long and has a web and a price of it behind its word."""
    return is_of_web(claim, many) and is_price(claim[1], claim[2])


def is_stream_of(web, price, worth, thing):
    """Whether a thing of any kind is a stream of this worth at the price."""
    return can_be_led(web, price, thing) and total(thing[0]) == worth


def is_low(web, price, cut, stream):
    """Whether the cut is the one nearest the spring by a greatest stream."""
    return places_led_to(web, sizes_at(web, price), stream) == cut


def is_high(web, price, cut, stream):
    """Whether the cut is the one nearest the drain by a greatest stream."""
    return places_without(web, places_led_from(web, sizes_at(web, price), stream)) == cut


def takes_worth(claim, paper):
    """Whether a claim (WORD, WEB, L, WORTH) is taken with (STREAM, CUT)."""
    if not (is_at_price(claim, 4) and is_fraction(claim[3]) and is_row(paper, 2)):
        return False
    word, web, price, worth = claim
    stream, cut = paper
    return is_stream_of(web, price, worth, stream) and is_cut(web, cut) and worth_of(web, cut, price) == worth


def is_least_with(claim, paper):
    """Whether a claim (WORD, WEB, L, CUT) has a cut, and the paper is a stream of its worth."""
    if not (is_at_price(claim, 4) and is_cut(claim[1], claim[3])):
        return False
    word, web, price, cut = claim
    return is_stream_of(web, price, worth_of(web, cut, price), paper)


def takes_least(claim, paper):
    """Whether a claim (WORD, WEB, L, CUT) is taken with STREAM."""
    return is_least_with(claim, paper) and is_low(claim[1], claim[2], claim[3], paper)


def takes_most(claim, paper):
    """Whether a claim (WORD, WEB, L, CUT) is taken with STREAM."""
    return is_least_with(claim, paper) and is_high(claim[1], claim[2], claim[3], paper)


def takes_cuts(claim, paper):
    """Whether a claim (WORD, WEB, L, MANY) is taken with STREAM."""
    if not (is_at_price(claim, 4) and is_whole(claim[3]) and can_be_led(claim[1], claim[2], paper)):
        return False
    word, web, price, many = claim
    worth = total(paper[0])
    alike = [cut for cut in all_cuts(web) if worth_of(web, cut, price) == worth]
    # Where no cut is worth as much as the stream, it isn't a greatest one.
    return len(alike) == many and many >= 1


def are_rising_prices(web, row):
    """Whether a row of things of any kind is one of prices, each more than the one ahead."""
    if not all(is_price(web, at) for at in row):
        return False
    return all(below(ahead, behind) for ahead, behind in zip(row, row[1:]))


def is_bit(web, thing):
    """Whether a thing of any kind is (CUT, MOST, BASE, LEAN) with the line of both cuts."""
    if not (is_row(thing, 4) and is_cut(web, thing[0]) and is_cut(web, thing[1])):
        return False
    cut, most, base, lean = thing
    if not (is_whole(base) and is_whole(lean)):
        return False
    return line_of(web, cut) == (base, lean) and line_of(web, most) == (base, lean)


def are_bits(web, many, thing):
    """Whether a thing of any kind is a tuple of so many bits whose LEAN falls."""
    if not (is_row(thing, many) and all(is_bit(web, bit) for bit in thing)):
        return False
    return all(ahead[3] > behind[3] for ahead, behind in zip(thing, thing[1:]))


def is_end(web, bits, at, thing):
    """Whether a thing of any kind is a stream at the price of the worth that all these bits have there."""
    return all(is_stream_of(web, at, on_line(base, lean, at), thing) for cut, most, base, lean in bits)


def is_middle(web, bit, at, thing):
    """Whether a thing of any kind is a stream at the price by which the bit's cuts are the outermost least ones."""
    cut, most, base, lean = bit
    if not is_stream_of(web, at, on_line(base, lean, at), thing):
        return False
    return is_low(web, at, cut, thing) and is_high(web, at, most, thing)


def are_ends(web, bits, marks, thing):
    """Whether a thing of any kind is a tuple of streams at 0, each break and TOP, of the worths of the bits beside."""
    if not is_row(thing, len(marks)):
        return False
    # The first and the last mark have one bit beside them, all others two.
    beside = [bits[max(0, at - 1):at + 1] for at in range(len(marks))]
    return all(is_end(web, some, at, stream) for some, at, stream in zip(beside, marks, thing))


def are_middles(web, bits, marks, thing):
    """Whether a thing of any kind is a tuple of streams half-way of each stretch, with the bits' cuts."""
    if not is_row(thing, len(bits)):
        return False
    halves = [half_way(ahead, behind) for ahead, behind in zip(marks, marks[1:])]
    return all(is_middle(web, bit, at, stream) for bit, at, stream in zip(bits, halves, thing))


def takes_stair(claim, paper):
    """Whether a claim (WORD, WEB, BITS, BREAKS) is taken with (ENDS, MIDDLES)."""
    if not (is_of_web(claim, 4) and isinstance(claim[3], tuple) and is_row(paper, 2)):
        return False
    word, web, bits, breaks = claim
    marks = (fraction(0, 1), *breaks, fraction(web[0], 1))
    if not (are_rising_prices(web, marks) and are_bits(web, len(breaks) + 1, bits)):
        return False
    ends, middles = paper
    return are_ends(web, bits, marks, ends) and are_middles(web, bits, marks, middles)


def is_passed_behind(web, price, cut):
    """Whether a cut is as dear as () at the price and less dear behind it."""
    if worth_of(web, cut, price) != worth_of(web, (), price):
        return False
    return line_of(web, cut)[1] < line_of(web, ())[1]


def takes_until(claim, paper):
    """Whether a claim (WORD, WEB, L) is taken with (STREAM, CUT), CUT None at TOP."""
    if not (is_at_price(claim, 3) and is_row(paper, 2)):
        return False
    word, web, price = claim
    stream, cut = paper
    if not (can_be_led(web, price, stream) and stream[0] == sizes_at(web, price)[0]):
        return False
    if price == fraction(web[0], 1):
        return cut is None
    return is_cut(web, cut) and is_passed_behind(web, price, cut)


def takes_never(claim, paper):
    """Whether a claim (WORD, WEB) is taken with CUT."""
    if not (is_of_web(claim, 2) and is_cut(claim[1], paper)):
        return False
    return line_of(claim[1], paper)[0] < line_of(claim[1], ())[0]


def is_level(web, sizes, stream):
    """Whether no place with less than TOP by its B can have more but from places that have no more by theirs."""
    levels = {place[0]: over(share, fraction(place[2], 1)) for place, share in zip(web[1], stream[0])}
    ways = ways_between(web, sizes, stream)
    outward = places_led_from(web, sizes, stream)
    for name in levels:
        if below(levels[name], fraction(web[0], 1)):
            others = places_reached(web, name, ways)
            if name in outward or any(below(levels[name], levels[other]) for other in others):
                return False
    return True


def takes_shares(claim, paper):
    """Whether a claim (WORD, WEB, SHARES) is taken with STREAM."""
    if not (is_of_web(claim, 3) and does_share(claim[1])):
        return False
    word, web, shares = claim
    top = fraction(web[0], 1)
    sizes = sizes_at(web, top)
    # That the shares fit makes them fractions, and not only alike to some.
    if not (all_fit(sizes[0], shares) and can_be_led(web, top, paper) and paper[0] == shares):
        return False
    return is_level(web, sizes, paper)


def is_part_with(graph, less, worth, thing):
    """Whether a thing of any kind is a part that has this worth, pairs by names less so many."""
    if not (is_choice(graph[0], thing) and len(thing) > less):
        return False
    return fraction(pairs_among(graph[1], thing), len(thing) - less) == worth


def borne_by(graph, leans):
    """What each name bears by leans."""
    bears = {name: fraction(0, 1) for name in graph[0]}
    for (one, other), lean in zip(graph[1], leans):
        bears[one] = plus(bears[one], lean)
        bears[other] = plus(bears[other], minus(fraction(1, 1), lean))
    return bears


def are_leans(graph, worth, spared, thing):
    """Whether a thing of any kind is leans that lay no more than worth on any name, and nothing on the spared ones."""
    if not all_fit([fraction(1, 1)] * len(graph[1]), thing):
        return False
    bears = borne_by(graph, thing)
    return all(not below(fraction(0, 1) if name in spared else worth, bears[name]) for name in bears)


def is_of_graph(claim, paper):
    """Whether a claim is (WORD, GRAPH, WORTH), and the paper a tuple of two."""
    return is_row(claim, 3) and has_graph_form(claim[1]) and is_fraction(claim[2]) and is_row(paper, 2)


def takes_densest(claim, paper):
    """Whether a claim (WORD, GRAPH, WORTH) is taken with (PART, LEANS)."""
    if not is_of_graph(claim, paper):
        return False
    word, graph, worth = claim
    return is_part_with(graph, 0, worth, paper[0]) and are_leans(graph, worth, (), paper[1])


def takes_thickest(claim, paper):
    """Whether a claim (WORD, GRAPH, WORTH) is taken with (PART, LEANS), LEANS one for each name."""
    if not is_of_graph(claim, paper):
        return False
    word, graph, worth = claim
    part, rows = paper
    if not (is_part_with(graph, 1, worth, part) and is_row(rows, len(graph[0]))):
        return False
    return all(are_leans(graph, worth, (name,), leans) for name, leans in zip(graph[0], rows))


def with_tools(house, done):
    """The cut of the house's web that has done jobs and all tools that they want."""
    names = list(done)
    for name, gain, grows, wants in house[1]:
        if name in done:
            names.extend(wants)
    return tuple(sorted(set(names)))


def takes_earns(claim, paper):
    """Whether a claim (WORD, HOUSE, L, WORTH) is taken with (DONE, STREAM)."""
    if not (is_row(claim, 4) and has_house_form(claim[1]) and is_fraction(claim[3]) and is_row(paper, 2)):
        return False
    word, house, price, worth = claim
    done, stream = paper
    web = house_web(house)
    if not (is_price(web, price) and is_choice([job[0] for job in house[1]], done)):
        return False
    # The cut of nothing is worth what all jobs earn together, each other one less what is earned by it.
    every = worth_of(web, (), price)
    left = minus(every, worth)
    return worth_of(web, with_tools(house, done), price) == left and is_stream_of(web, price, left, stream)


TAKES = {
    "worth": takes_worth,
    "least": takes_least,
    "most": takes_most,
    "cuts": takes_cuts,
    "stair": takes_stair,
    "until": takes_until,
    "never": takes_never,
    "shares": takes_shares,
    "densest": takes_densest,
    "thickest": takes_thickest,
    "earns": takes_earns,
}


def holds(claim, paper):
    """Whether the checker takes a claim with its paper, both of any kind."""
    if not (isinstance(claim, tuple) and claim and isinstance(claim[0], str) and claim[0] in TAKES):
        return False
    takes = TAKES[claim[0]]
    return takes(claim, paper)
