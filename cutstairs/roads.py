"""Roads from node to node, and how to lead as much as they let."""


def reached(steps, start):
    """For each node that is reached from the start the one ahead, on a road of fewest steps.

    steps has for each node a list of those to which a step goes; the start stands ahead of itself.
    """
    ahead = {start: start}
    wave = [start]
    while wave:
        following = []
        for one in wave:
            for other in steps[one]:
                if other not in ahead:
                    ahead[other] = one
                    following.append(other)
        wave = following
    return ahead


def road_with_room(rooms, start, end):
    """The steps, last first, of a road of fewest ties that have room; none where there is no road."""
    steps = {one: [other for other in rooms[one] if rooms[one][other] > 0] for one in rooms}
    ahead = reached(steps, start)
    road = []
    node = end
    while node in ahead and node != start:
        road.append((ahead[node], node))
        node = ahead[node]
    return road


def fill(rooms, start, end):
    """Lead as much as can be from start to end; what each tie has room for is changed in rooms.

    What is led from one to the other makes as much room for leading it back.
    """
    road = road_with_room(rooms, start, end)
    while road:
        most = min([rooms[one][other] for one, other in road])
        for one, other in road:
            rooms[one][other] -= most
            rooms[other][one] = rooms[other].get(one, 0) + most
        # Always a road of fewest ties: by any others there may be as many as the numbers are great.
        road = road_with_room(rooms, start, end)
