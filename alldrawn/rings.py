"""Rings of a net, and what hangs on them."""

from alldrawn.basics import pairs_round, pieces
from alldrawn.errors import BadRing, NotOff
from alldrawn.nets import is_tie

FEWEST_ON_RING = 3
FEET_THAT_BAR = 3


def is_ring(net, value):
    """Whether any value is a ring of the net."""
    if not isinstance(value, tuple) or len(value) < FEWEST_ON_RING:
        return False
    if not all([place in net for place in value]) or len(set(value)) < len(value):
        return False
    return all([net.tied(one, other) for one, other in pairs_round(value)])


def check_ring(net, ring):
    """BadRing, unless a value is a ring of the net."""
    if not is_ring(net, ring):
        raise BadRing(ring)


def is_own(ring, tie):
    """Whether a tie is one of the ring's own ties."""
    own = pairs_round(ring)
    return tie in own or (tie[1], tie[0]) in own


def is_off(net, ring, value):
    """Whether any value is a place or a tie off the ring."""
    if value in net:
        return value not in ring
    return is_tie(net, value) and not is_own(ring, value)


def check_off(net, ring, value):
    """NotOff, unless a value is a place or a tie off the ring."""
    if not is_off(net, ring, value):
        raise NotOff(value)


def feet_of(net, ring, piece):
    """The places of the ring that are tied with a place of a piece, in sequence."""
    return tuple([foot for foot in net.places if foot in ring and any([place in piece for place in net[foot]])])


def hanging(net, ring):
    """The ascending tuple of all hanging parts, each as (places, feet): BadRing."""
    check_ring(net, ring)
    single = [((), tie) for tie in net.ties if tie[0] in ring and tie[1] in ring and not is_own(ring, tie)]
    off = [place for place in net.places if place not in ring]
    return tuple(sorted(single + [(piece, feet_of(net, ring, piece)) for piece in pieces(net, off)]))


def holds(part, thing):
    """Whether a hanging part of a ring holds a thing off the ring."""
    places, feet = part
    if not isinstance(thing, tuple):
        return thing in places
    if not places:
        return thing[0] in feet and thing[1] in feet
    return thing[0] in places or thing[1] in places


def alternate(ring, feet, others):
    """Whether, round the ring, two of feet part two of others that are none of these two."""
    marks = [ring.index(foot) for foot in feet]
    stops = [ring.index(other) for other in others]
    for start in marks:
        for end in marks:
            between = [stop for stop in stops if start < stop < end]
            beyond = [stop for stop in stops if stop < start or end < stop]
            if start < end and between and beyond:
                return True
    return False


def bar(ring, part, other):
    """Whether two hanging parts bar one another from one side of the ring."""
    common = [foot for foot in part[1] if foot in other[1]]
    return len(common) >= FEET_THAT_BAR or alternate(ring, part[1], other[1])


def barring(net, ring):
    """The ascending tuple of all pairs of numbers of hanging parts that bar one another: BadRing."""
    parts = hanging(net, ring)
    pairs = [(i, j) for j in range(len(parts)) for i in range(j)]
    return tuple(sorted([(i, j) for i, j in pairs if bar(ring, parts[i], parts[j])]))
