"""Greatest streams from a spring to a drain, by roads from node to node that let as much as they can."""

from cutstairs.cuts import DRAIN, SPRING, reached
from cutstairs.fractions import fraction


def road_with_room(rooms, start, end):
    """The steps, last first, of a road of fewest ties that have room; none where there is no road."""
    steps = {one: [other for other in rooms[one] if rooms[one][other] > 0] for one in rooms}
    ahead = reached(steps, start)
    road = []
    node = end
    while node in ahead and node != start:
        road.append((ahead[node], node))
        node = ahead[node]
    return road


def fill(rooms, start, end):
    """Lead as much as can be from start to end; what each tie has room for is changed in rooms.

    What is led from one to the other makes as much room for leading it back.
    """
    road = road_with_room(rooms, start, end)
    while road:
        most = min([rooms[one][other] for one, other in road])
        for one, other in road:
            rooms[one][other] -= most
            rooms[other][one] = rooms[other].get(one, 0) + most
        # Always a road of fewest ties: by any others there may be as many as the numbers are great.
        road = road_with_room(rooms, start, end)


def rooms_of(ends, holds):
    """For each node how much it has room for to each other one that a tie leads to."""
    rooms = {SPRING: {}, DRAIN: {}}
    for part, sizes in zip(ends, holds):
        for (one, other), size in zip(part, sizes):
            if one not in rooms:
                rooms[one] = {}
            if other not in rooms:
                rooms[other] = {}
            rooms[one][other] = size
    return rooms


def led_by(rooms, part, sizes, scale):
    """What goes by each tie of a part, as fractions."""
    # Where a tie the other way has something there is more room than size, and nothing goes here.
    return tuple(fraction(max(0, size - rooms[one][other]), scale) for (one, other), size in zip(part, sizes))


def greatest(ends, holds, scale):
    """What goes by the ties, part by part, when as much as can be goes from SPRING to DRAIN.

    ends has for each part the two ends of its ties, holds what these hold, in whole numbers, scale to each unit.
    """
    rooms = rooms_of(ends, holds)
    fill(rooms, SPRING, DRAIN)
    return tuple(led_by(rooms, part, sizes, scale) for part, sizes in zip(ends, holds))
