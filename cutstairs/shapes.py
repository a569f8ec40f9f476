"""The shape of all least cuts at a price: which places go together, and which draw others along."""

from cutstairs.cuts import choices_of, places_reached, places_without, ways_between
from cutstairs.streams import led_from, led_to, stream_at
from cutstairs.webs import sizes_at


def blocks_of(free, draws):
    """The blocks, by their first names: places that draw each other along."""
    blocks = []
    for name in free:
        block = tuple(other for other in free if other in draws[name] and name in draws[other])
        if block[0] == name:
            blocks.append(block)
    return tuple(blocks)


def arrows_of(blocks, draws):
    """All (I, J) of unlike numbers of blocks where block I draws block J along, rising."""
    firsts = [block[0] for block in blocks]
    return tuple(
        (i, j)
        for i, one in enumerate(firsts)
        for j, other in enumerate(firsts)
        if i != j and other in draws[one]
    )


def shape_at(web, price):
    """The shape (LOW, BLOCKS, ARROWS) of all least cuts at a price."""
    stream = stream_at(web, price)
    low = led_to(web, price, stream)
    free = places_without(web, low + led_from(web, price, stream))
    # No least cut has a place but lacks one to which more can be led from it.
    ways = ways_between(web, sizes_at(web, price), stream)
    draws = {name: places_reached(web, name, ways) for name in free}
    blocks = blocks_of(free, draws)
    return (low, blocks, arrows_of(blocks, draws))


def is_closed(arrows, choice):
    """Whether the chosen numbers of blocks have with each I its J."""
    return all(j in choice for i, j in arrows if i in choice)


def with_blocks(low, chosen):
    """The cut of low and the chosen blocks."""
    names = list(low)
    for block in chosen:
        names.extend(block)
    return tuple(sorted(names))


def cuts_at(web, price):
    """All least cuts at a price, rising as tuples are."""
    low, blocks, arrows = shape_at(web, price)
    choices = [choice for choice in choices_of(list(range(len(blocks)))) if is_closed(arrows, choice)]
    return sorted([with_blocks(low, [blocks[at] for at in choice]) for choice in choices])


def many_cuts(web, price):
    """How many least cuts there are at a price."""
    return len(cuts_at(web, price))
