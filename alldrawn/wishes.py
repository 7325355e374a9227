"""Whether places can come to one land, ties can stand side by side, and further ties can be drawn in.

Each wish comes true just if a changed net can be drawn. This one may have a further place, told by the empty string: so
it is told by a dict that has the neighbours of each place.
"""

from alldrawn.basics import ends_of_run, from_member
from alldrawn.errors import BadPlaces, BadTies
from alldrawn.flat import draw, drawing_of, is_drawing_of, near_of, stuck_in, tells, tells_stuck, wheels_in
from alldrawn.nets import is_free

FURTHER = ""
FEWEST_MEETING = 2
MOST_MEETING = 3
FEWEST_BESIDE = 2
MOST_FURTHER_TIES = 5


def are_unlike(members, value):
    """Whether any value is a tuple of unlike members of this tuple."""
    if not isinstance(value, tuple) or not all([member in members for member in value]):
        return False
    return len(set(value)) == len(value)


def check_meeting(net, some):
    """BadPlaces, unless a value is a tuple of two or three unlike places of the net."""
    if not are_unlike(net.places, some) or not FEWEST_MEETING <= len(some) <= MOST_MEETING:
        raise BadPlaces(some)


def net_meeting(net, some):
    """The net with a further place that is tied with some of its places."""
    near = near_of(net)
    for place in some:
        near[place] = near[place] + (FURTHER,)
    near[FURTHER] = some
    return near


def meet(net, some):
    """Whether two or three places can come to one land: BadPlaces.

    ("some", drawing), or ("never", hubs, roads).
    """
    check_meeting(net, some)
    near = net_meeting(net, some)
    wheels = wheels_in(near)
    if not wheels:
        return ("never", *stuck_in(near))
    left = {place: tuple([other for other in wheels[place] if other != FURTHER]) for place in net.places}
    return "some", drawing_of(net, left)


def shows_meet(net, some, value):
    """Whether any value is a correct result of meet: BadPlaces."""
    check_meeting(net, some)
    if not tells(value, "some", 2):
        return tells_stuck(net_meeting(net, some), "never", value)
    if not is_drawing_of(net, value[1]):
        return False
    return any([all([place in land for place in some]) for land in value[1].lands])


def check_beside(net, place, some):
    """NoPlace; BadPlaces, unless some is a tuple of unlike neighbours, two at least, and two at least are not in it."""
    near = net[place]
    if not are_unlike(near, some) or not FEWEST_BESIDE <= len(some) <= len(near) - FEWEST_BESIDE:
        raise BadPlaces(some)


def net_beside(net, place, some):
    """The net in which some neighbours of a place are tied with a further place instead, and this with the place."""
    near = near_of(net)
    for one in some:
        near[one] = tuple([FURTHER if other == place else other for other in near[one]])
    near[place] = tuple([other for other in near[place] if other not in some]) + (FURTHER,)
    near[FURTHER] = some + (place,)
    return near


def without_tie_between(wheels, place):
    """Wheels with a further place, as they are when it is drawn up to the place with which it is tied."""
    left = {here: tuple([place if other == FURTHER else other for other in wheels[here]]) for here in wheels}
    left[place] = from_member(wheels[FURTHER], place)[1:] + from_member(wheels[place], FURTHER)[1:]
    return left


def beside(net, place, some):
    """Whether the ties from a place to some neighbours can stand side by side around it: NoPlace, BadPlaces.

    ("some", drawing), or ("never", hubs, roads).
    """
    check_beside(net, place, some)
    near = net_beside(net, place, some)
    wheels = wheels_in(near)
    if not wheels:
        return ("never", *stuck_in(near))
    return "some", drawing_of(net, without_tie_between(wheels, place))


def shows_beside(net, place, some, value):
    """Whether any value is a correct result of beside: NoPlace, BadPlaces."""
    check_beside(net, place, some)
    if not tells(value, "some", 2):
        return tells_stuck(net_beside(net, place, some), "never", value)
    if not is_drawing_of(net, value[1]):
        return False
    return ends_of_run(value[1].wheels[net.places.index(place)], some) == 1


def check_further(net, ties):
    """BadTies, unless a value is a tuple of one to five ties that the net does not have, no two of them the same."""
    if not isinstance(ties, tuple) or not 1 <= len(ties) <= MOST_FURTHER_TIES:
        raise BadTies(ties)
    if not all([is_free(net, tie) for tie in ties]):
        raise BadTies(ties)
    if len(set([tuple(sorted(tie)) for tie in ties])) < len(ties):
        raise BadTies(ties)


def net_with(net, ties):
    """The Net with these ties, too: BadTies, Full."""
    check_further(net, ties)
    whole = net
    for tie in ties:
        whole = whole + tie
    return whole


def with_ties(net, ties):
    """Whether further ties can be drawn in, all at once: BadTies, Full.

    ("some", drawing), or ("never", hubs, roads), of the Net with these ties, too.
    """
    found = draw(net_with(net, ties))
    word = "some" if found[0] == "drawing" else "never"
    return (word, *found[1:])


def shows_with_ties(net, ties, value):
    """Whether any value is a correct result of with_ties: BadTies, Full."""
    whole = net_with(net, ties)
    if tells(value, "some", 2):
        return is_drawing_of(whole, value[1])
    return tells_stuck(near_of(whole), "never", value)
