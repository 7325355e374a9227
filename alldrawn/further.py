"""How many ties a further tie must cross at the least, over all drawings.

From part to part over thin ties one comes from the one place to the other. Only in stiff parts on this way ties must be
crossed: there the lands lie in levels, by how many ties they are away from where one comes in, and between any two
levels goes a ring. Where one comes in or goes out is an end of a stretch: a place of the part, or a thin tie beyond
which the place is. whole is parts(net); lands are told by their walks, and numbered.
"""

from alldrawn.basics import is_number, pairs_round, reached
from alldrawn.drawings import all_walks
from alldrawn.errors import BadTie
from alldrawn.flat import check_drawn, draw, drawing_of, is_drawing_of, near_of, wheels_in
from alldrawn.nets import check_place, is_free
from alldrawn.parts import parts
from alldrawn.rings import is_off, is_ring
from alldrawn.roads import roads_between
from alldrawn.shapes import NOWHERE, stick_by_ends, ties_at, tree_from, wheels_by_places
from alldrawn.sides import sides

# More than all ties together.
FAR = 1000


def check_far(net, one, other):
    """NoPlace for one, then for other, BadTie if they are the same, or tied, NoDrawing."""
    check_place(net, one)
    check_place(net, other)
    if not is_free(net, (one, other)):
        raise BadTie((one, other))
    check_drawn(net)


def way_between(whole, one, other):
    """The numbers of the parts over which one comes from one place to another one, as few as can be."""
    start = [at for at, part in enumerate(whole) if one in part[1]][0]
    before = dict(tree_from(whole, start, NOWHERE))
    way = [[at for at in before if other in whole[at][1]][0]]
    while one not in whole[way[0]][1]:
        way = [before[way[0]]] + way
    return way


def stretches(whole, one, other):
    """For each stiff part between two places (number, end, end)."""
    way = way_between(whole, one, other)
    ends = [(one, other)]
    for at, to in zip(way, way[1:]):
        there = [thin for thin in whole[at][3] if thin[2] == to][0]
        back = (there[0], there[1], at)
        ends = ends[:-1] + [(ends[-1][0], there), (back, other)]
    return [(at, start, end) for at, (start, end) in zip(way, ends) if whole[at][0] == "stiff"]


def both_ways(ties):
    """Ties, told both ways."""
    return [way for one, other in ties for way in ((one, other), (other, one))]


def lands_by_way(walks):
    """For each way along a tie the number of the land beside it: a dict."""
    return {way: number for number, walk in enumerate(walks) for way in pairs_round(walk)}


def lands_beside(walks, end, ways):
    """The numbers of the lands that have an end: this place, or one of these ways along the ties of a thin tie."""
    return [number for number, walk in enumerate(walks)
            if end in walk or any([way in ways for way in pairs_round(walk)])]


def levels_from(walks, thick, first):
    """For each land how many ties must be crossed to come there from one of the first lands: a list.

    thick is a dict that tells of each way along a tie as how many ties it counts.
    """
    by_way = lands_by_way(walks)
    levels = [0 if number in first else FAR for number in range(len(walks))]
    for _ in walks:
        for one, other in by_way:
            here, beside = by_way[one, other], by_way[other, one]
            levels[here] = min(levels[here], levels[beside] + thick[one, other])
    return levels


def ways_along(end):
    """The ways along an end of a stretch; none if it is a place."""
    return both_ways([end[:2]]) if isinstance(end, tuple) else []


def ways_beyond(whole, at, end):
    """The ways along all ties of the net that are at an end of a stretch; none if it is a place."""
    return both_ways(ties_at(whole, at, end)) if isinstance(end, tuple) else []


def crossed_in(drawing, whole, stretch):
    """The fewest ties that are crossed, one behind the other, from one end of a stretch to the other, in a drawing."""
    at, start, end = stretch
    walks = drawing.lands
    by_way = lands_by_way(walks)
    first = lands_beside(walks, start, ways_beyond(whole, at, start))
    last = lands_beside(walks, end, ways_beyond(whole, at, end))
    levels = levels_from(walks, {way: 1 for way in by_way}, first)
    here = min(last, key=lambda number: levels[number])
    crossed = ()
    while levels[here] > 0:
        one, other = [way for way in pairs_round(walks[here]) if levels[by_way[way[1], way[0]]] < levels[here]][0]
        crossed = ((one, other) if (one, other) in drawing.net.ties else (other, one),) + crossed
        here = by_way[other, one]
    return crossed


def roads_over(whole, at, start, end):
    """As many roads as there can be, without a common tie, over the ties at the stick of a part between two places."""
    near = {}
    for one, other in both_ways(ties_at(whole, at, stick_by_ends(whole[at])[start, end])):
        near[one] = near.get(one, ()) + (other,)
    return roads_between(near, start, end)


def ring_round(walks, inside, roads, level, levels):
    """The ring between the lands inside, which are of this level or a higher one, and all others."""
    by_way = lands_by_way(walks)
    steps = {}
    for one, other in by_way:
        beside = by_way[other, one]
        if by_way[one, other] in inside and beside not in inside:
            # A thin tie is between so many levels at most as there are roads over it: each has its own.
            steps[one] = roads[one, other][level - 1 - levels[beside]]
    ring = ()
    here = list(steps)[0]
    while here not in ring:
        ring = ring + steps[here][:-1]
        here = steps[here][-1]
    return ring


def rings_in(whole, stretch):
    """Rings without a common tie between both ends of a stretch: as many as ties must be crossed."""
    at, start, end = stretch
    walks = all_walks(wheels_by_places(whole[at]))
    roads = {way: roads_over(whole, at, *way) for way in lands_by_way(walks)}
    thick = {way: len(roads[way]) for way in roads}
    levels = levels_from(walks, thick, lands_beside(walks, start, ways_along(start)))
    last = lands_beside(walks, end, ways_along(end))
    by_way = lands_by_way(walks)
    near = {number: [by_way[other, one] for one, other in pairs_round(walk)] for number, walk in enumerate(walks)}
    found = ()
    for level in range(1, 1 + min([levels[number] for number in last])):
        inside = reached(near, last[0], [number for number in near if levels[number] >= level])
        found = found + (ring_round(walks, inside, roads, level, levels),)
    return found


def net_crossing(net, road, crossed):
    """The net in which a road crosses these ties: its inner places are the numbers of these."""
    near = near_of(net)
    for place, before, behind in zip(road[1:-1], road, road[2:]):
        one, other = crossed[place]
        near[one] = tuple([place if end == other else end for end in near[one]])
        near[other] = tuple([place if end == one else end for end in near[other]])
        near[place] = (one, other, before, behind)
    near[road[0]] = near[road[0]] + (road[1],)
    near[road[-1]] = near[road[-1]] + (road[-2],)
    return near


def drawing_crossing(net, one, other, crossed):
    """Any Drawing of a net in which a further tie crosses these ties, and no more, which are the fewest that can be."""
    road = (one,) + tuple(range(len(crossed))) + (other,)
    wheels = wheels_in(net_crossing(net, road, crossed))
    left = {}
    for place in net.places:
        ends = {number: end for number, tie in enumerate(crossed) if place in tie for end in tie if end != place}
        left[place] = tuple([ends.get(end, end) for end in wheels[place] if end in ends or end in net[place]])
    return drawing_of(net, left)


def further(net, one, other):
    """(number, drawing, crossed, rings) of a further tie: NoPlace for one, then for other, BadTie, NoDrawing.

    number is the fewest ties that it must cross, over all drawings.
    """
    check_far(net, one, other)
    whole = parts(net)
    drawing = draw(net)[1]
    crossed = ()
    rings = ()
    for stretch in stretches(whole, one, other):
        crossed = crossed + crossed_in(drawing, whole, stretch)
        rings = rings + rings_in(whole, stretch)
    return len(rings), drawing_crossing(net, one, other, crossed), crossed, rings


def can_cross(drawing, one, other, crossed):
    """Whether in a drawing lands lead from one place to another one, over these ties, one behind the other."""
    there = [land for land in drawing.lands if one in land]
    for start, end in crossed:
        beside = [drawing.land(start, end), drawing.land(end, start)]
        there = [beside[1 - number] for number in (0, 1) if beside[number] in there]
    return any([other in land for land in there])


def part_always(net, one, other, rings):
    """Whether any values are rings without a common own tie, off which two places are, on unlike sides always."""
    used = []
    for ring in rings:
        if not is_ring(net, ring) or not is_off(net, ring, one) or not is_off(net, ring, other):
            return False
        if sides(net, ring, one, other)[0] != "apart" or any([way in used for way in pairs_round(ring)]):
            return False
        used = used + both_ways(pairs_round(ring))
    return True


def shows_further(net, one, other, value):
    """Whether any value is a correct result of further: NoPlace for one, then for other, BadTie, NoDrawing."""
    check_far(net, one, other)
    if not isinstance(value, tuple) or len(value) != 4:
        return False
    number, drawing, crossed, rings = value
    if not is_drawing_of(net, drawing) or not isinstance(crossed, tuple) or not isinstance(rings, tuple):
        return False
    if not is_number(number, FAR) or len(crossed) != number or len(rings) != number:
        return False
    if not all([tie in net.ties for tie in crossed]):
        return False
    return can_cross(drawing, one, other, crossed) and part_always(net, one, other, rings)
