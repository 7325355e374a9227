"""A drawing of a net, or a stuck net: a net within it that cannot be drawn.

In this file near is a dict that has, for each place of a net, its neighbours. A drawing grows from a ring, road by
road, each through a land that has both its ends. A land is told as (side, walk): the side of that ring, 0 or 1, and its
places in the order of the walk. What is not drawn yet hangs on what is, in parts (places, feet), as on a ring.
"""

from alldrawn.basics import from_member, pairs_round, pieces
from alldrawn.drawings import Drawing
from alldrawn.errors import NoDrawing

FIVE = 5
SIX = 6
TWO_THREES = (3, 3)
# With fewer places there is no stuck net.
FEWEST_STUCK = 5
NEIGHBOURS_ON_ROAD = 2


def near_of(net):
    """For each place of a net its neighbours, as a dict."""
    return {place: net[place] for place in net.places}


def road_over(near, start, inner, ends):
    """A shortest road from start, over one or more of the inner places, to one of the ends."""
    roads = {place: (start, place) for place in near[start] if place in inner}
    queue = list(roads)
    at = 0
    while True:
        here = queue[at]
        for place in near[here]:
            if place in ends:
                return roads[here] + (place,)
            if place in inner and place not in roads:
                roads[place] = roads[here] + (place,)
                queue.append(place)
        at = at + 1


def ring_in(near):
    """Any ring of a well tied net."""
    one = list(near)[0]
    other = near[one][0]
    inner = [place for place in near if place not in (one, other)]
    return road_over(near, one, inner, (other,))


def parts_waiting(near, lands):
    """The parts that hang on what is drawn: those of a place or more, and single ties."""
    drawn = {way: True for _, walk in lands for way in pairs_round(walk)}
    there = {place: True for place, _ in drawn}
    feet = [place for place in near if place in there]
    single = [(one, other) for at, one in enumerate(feet) for other in feet[at + 1:] if other in near[one]]
    off = [place for place in near if place not in there]
    parts = [(piece, tuple([foot for foot in feet if any([place in piece for place in near[foot]])]))
             for piece in pieces(near, off)]
    return parts + [((), tie) for tie in single if tie not in drawn]


def lands_for(lands, part, sides):
    """The lands through which a road of a part can be drawn: they have all its feet, and are on its side, if any."""
    places, feet = part
    thing = places[0] if places else feet
    return [(side, walk) for side, walk in lands
            if sides.get(thing, side) == side and all([foot in walk for foot in feet])]


def next_part(lands, parts, sides):
    """The part whose road is drawn next, and the lands for it."""
    fitting = []
    for part in parts:
        fitting = lands_for(lands, part, sides)
        # A part with one land left must have it; of all others any one can have any land.
        if len(fitting) <= 1:
            return part, fitting
    return parts[-1], fitting


def road_of(near, part):
    """Any road through a part, from one of its feet to another one."""
    places, feet = part
    if not places:
        return feet
    return road_over(near, feet[0], places, feet[1:])


def halves(land, road):
    """The two lands into which a road parts a land."""
    side, walk = land
    walk = from_member(walk, road[0])
    to = walk.index(road[-1])
    inner = road[1:-1]
    return [(side, walk[:to + 1] + inner[::-1]), (side, walk[to:] + walk[:1] + inner)]


def grow(near, ring, sides):
    """The walks of all lands of any drawing that grows from a ring; [] if there is none.

    sides is a dict: for things off the ring, told by the places of hanging parts, and by single ties, the side on which
    they must lie. It is {}, or it has all of them, and no two parts that bar one another are on one side.
    """
    lands = [(0, ring), (1, ring[::-1])]
    parts = parts_waiting(near, lands)
    while parts:
        part, fitting = next_part(lands, parts, sides)
        if not fitting:
            return []
        lands = [land for land in lands if land != fitting[0]] + halves(fitting[0], road_of(near, part))
        parts = parts_waiting(near, lands)
    return [walk for _, walk in lands]


def wheels_of(near, walks):
    """The wheels of the drawing whose lands are walked so, as a dict."""
    after = {}
    for walk in walks:
        for (one, here), ahead in zip(pairs_round(walk), walk[2:] + walk[:2]):
            after[here, one] = ahead
    wheels = {}
    for place in near:
        wheel = [near[place][0]]
        while len(wheel) < len(near[place]):
            wheel.append(after[place, wheel[-1]])
        wheels[place] = tuple(wheel)
    return wheels


def wheels_in(near):
    """The wheels of any drawing of a well tied net, as a dict; {} if there is none."""
    walks = grow(near, ring_in(near), {})
    if not walks:
        return {}
    return wheels_of(near, walks)


def within(near, some):
    """What is left of a net if it has some of its places alone."""
    return {place: tuple([other for other in near[place] if other in some]) for place in some}


def blocks(near, some):
    """Sets of places among some: those of each well tied net among them, and pairs and single ones."""
    for place in some:
        found = pieces(near, [other for other in some if other != place])
        if len(found) > 1:
            return [block for piece in found for block in blocks(near, piece + (place,))]
    return [some]


def stuck_block(near):
    """A well tied net without a drawing, in any net; {} if there is none."""
    for block in blocks(near, tuple(near)):
        inner = within(near, block)
        if len(block) >= FEWEST_STUCK and not wheels_in(inner):
            return inner
    return {}


def untied(near, one, other):
    """What is left of a net without the tie between two places."""
    left = {place: near[place] for place in near}
    left[one] = tuple([place for place in near[one] if place != other])
    left[other] = tuple([place for place in near[other] if place != one])
    return left


def least_stuck(near):
    """Of a net without a drawing what is left when all is taken away without which there still is none."""
    left = near
    for gone in near:
        left = stuck_block(within(left, [place for place in left if place != gone])) or left
    ties = [(one, other) for one in near for other in near[one] if one < other]
    for start, end in ties:
        if start in left and end in left[start]:
            left = stuck_block(untied(left, start, end)) or left
    return left


def road_to_hub(near, hubs, one, other):
    """The road from a hub over one of its neighbours to the next hub."""
    road = (one, other)
    while road[-1] not in hubs:
        road = road + tuple([place for place in near[road[-1]] if place != road[-2]])
    return road


def stuck_in(near):
    """Any stuck net of a well tied net without a drawing: its hubs, and its roads."""
    left = least_stuck(near)
    hubs = tuple(sorted([place for place in left if len(left[place]) > NEIGHBOURS_ON_ROAD]))
    roads = [road_to_hub(left, hubs, hub, place) for hub in hubs for place in left[hub]]
    return hubs, tuple([road for road in roads if road[0] < road[-1]])


def is_road(near, hubs, value):
    """Whether any value is a road of a net whose ends, and no inner places, are hubs."""
    places = list(near)
    if not isinstance(value, tuple) or len(value) < 2:
        return False
    if not all([place in places for place in value]) or len(set(value)) < len(value):
        return False
    if [place for place in value if place in hubs] != [value[0], value[-1]]:
        return False
    return all([other in near[one] for one, other in zip(value, value[1:])])


def are_hubs(near, value):
    """Whether any value is an ascending tuple of five or six places of a net."""
    places = list(near)
    if not isinstance(value, tuple) or len(value) not in (FIVE, SIX):
        return False
    return all([place in places for place in value]) and list(value) == sorted(set(value))


def ends_due(hubs, ends):
    """The ends that the roads of a stuck net with these hubs must have, [] if roads with these ends cannot be its."""
    if len(hubs) == FIVE:
        return [(one, other) for at, one in enumerate(hubs) for other in hubs[at + 1:]]
    theirs = [other for one, other in ends if one == hubs[0]]
    ours = [hub for hub in hubs if hub not in theirs]
    if (len(ours), len(theirs)) != TWO_THREES:
        return []
    return sorted([(min(one, other), max(one, other)) for one in ours for other in theirs])


def is_stuck(near, hubs, roads):
    """Whether any values are the hubs and the roads of a stuck net of a net."""
    if not are_hubs(near, hubs) or not isinstance(roads, tuple):
        return False
    if not all([is_road(near, hubs, road) for road in roads]):
        return False
    inner = [place for road in roads for place in road[1:-1]]
    ends = sorted([(min(road[0], road[-1]), max(road[0], road[-1])) for road in roads])
    return len(set(inner)) == len(inner) and roads != () and ends == ends_due(hubs, ends)


def tells(value, word, many):
    """Whether any value is a tuple of so many members, the first of which is this word."""
    return isinstance(value, tuple) and len(value) == many and value[0] == word


def tells_stuck(near, word, value):
    """Whether any value tells this word, and any stuck net of a net."""
    return tells(value, word, 3) and is_stuck(near, value[1], value[2])


def is_drawing_of(net, value):
    """Whether any value is a Drawing of the net."""
    return isinstance(value, Drawing) and value.net == net


def drawing_of(net, wheels):
    """The Drawing of a net that has these wheels, a dict."""
    return Drawing(net, tuple([wheels[place] for place in net.places]))


def check_drawn(net):
    """NoDrawing, unless the net has a drawing."""
    if not wheels_in(near_of(net)):
        raise NoDrawing(None)


def draw(net):
    """("drawing", drawing) with any Drawing of the net, or ("stuck", hubs, roads) with any stuck net of it."""
    near = near_of(net)
    wheels = wheels_in(near)
    if not wheels:
        return ("stuck", *stuck_in(near))
    return "drawing", drawing_of(net, wheels)


def shows_draw(net, value):
    """Whether any value is a correct result of draw."""
    if tells(value, "drawing", 2):
        return is_drawing_of(net, value[1])
    return tells_stuck(near_of(net), "stuck", value)
