"""Roads without a common tie: as many as there can be between two places.

used is a dict of ways (one, other): the ties along which roads lead, each told the way it is gone. near is a dict that
has, for each place, its neighbours.
"""


def free_road(near, used, start, end):
    """A shortest road from start to end over free ties, and back over those that are used; () if there is none."""
    roads = {start: (start,)}
    queue = [start]
    at = 0
    while at < len(queue) and end not in roads:
        here = queue[at]
        for place in near[here]:
            if (here, place) not in used and place not in roads:
                roads[place] = roads[here] + (place,)
                queue.append(place)
        at = at + 1
    return roads.get(end, ())


def ways_used(near, start, end):
    """The ways of as many roads from start to end as there can be without a common tie."""
    used = {}
    road = free_road(near, used, start, end)
    while road:
        for one, other in zip(road, road[1:]):
            # Two roads that go over a tie both ways can as well turn back there, each to the other's end.
            if (other, one) in used:
                del used[other, one]
            else:
                used[one, other] = True
        road = free_road(near, used, start, end)
    return used


def ways_from(used, place):
    """The places to which ways lead from one place."""
    return [other for one, other in used if one == place]


def roads_between(near, start, end):
    """As many roads from start to end as there can be without a common tie."""
    used = ways_used(near, start, end)
    roads = []
    while ways_from(used, start):
        road = (start,)
        while road[-1] != end:
            here = road[-1]
            ahead = ways_from(used, here)[0]
            del used[here, ahead]
            # A road that comes back to a place goes on from there without the ring.
            road = (road[:road.index(ahead)] if ahead in road else road) + (ahead,)
        roads.append(road)
    return roads
