"""Drawings of a net on a ball, without crossings."""

from alldrawn.basics import comes_ahead, from_first, pairs_round
from alldrawn.errors import BadLook, BadTie, BadWheels, Crossed
from alldrawn.rings import check_off, check_ring, hanging, holds


def is_wheel(near, value):
    """Whether any value is a tuple of these neighbours, each once."""
    return isinstance(value, tuple) and len(value) == len(near) and all([place in value for place in near])


def are_wheels(net, value):
    """Whether any value is a tuple with a wheel for each place of the net, in sequence."""
    if not isinstance(value, tuple) or len(value) != len(net):
        return False
    return all([is_wheel(net[place], wheel) for place, wheel in zip(net.places, value)])


def behind(wheel, place):
    """The neighbour that stands behind a place in a wheel."""
    return wheel[(wheel.index(place) + 1) % len(wheel)]


def walk_beside(around, one, other):
    """The places of the land beside the tie from one to other, in the order of the walk, from one on."""
    walk = [one]
    here, ahead = other, behind(around[other], one)
    while (here, ahead) != (one, other):
        walk.append(here)
        here, ahead = ahead, behind(around[ahead], here)
    return tuple(walk)


def all_walks(around):
    """One walk for each land of the wheels `around` their places."""
    walks = []
    walked = []
    for one in around:
        for other in around[one]:
            if (one, other) not in walked:
                walk = walk_beside(around, one, other)
                walks.append(walk)
                walked = walked + pairs_round(walk)
    return walks


def first_tie(net, part):
    """Any tie of a hanging part, told from its end on the ring to the other one."""
    places, feet = part
    if not places:
        return feet
    return feet[0], [place for place in net[feet[0]] if place in places][0]


class Drawing:
    """A drawing of a net without crossings, told by its wheels."""

    def __init__(self, net, wheels):
        if not are_wheels(net, wheels):
            raise BadWheels(wheels)
        around = {place: from_first(net.places, wheel) for place, wheel in zip(net.places, wheels)}
        walks = all_walks(around)
        if len(walks) != len(net.ties) - len(net) + 2:
            raise Crossed(len(walks))
        self.net = net
        self.wheels = tuple([around[place] for place in net.places])
        self.lands = tuple(sorted([from_first(net.places, walk) for walk in walks]))
        self._around = around

    def __eq__(self, other):
        return isinstance(other, Drawing) and self.net == other.net and self.wheels == other.wheels

    def __contains__(self, x):
        return x in self.lands

    def __invert__(self):
        return Drawing(self.net, tuple([wheel[::-1] for wheel in self.wheels]))

    def land(self, one, other):
        """The land beside the tie from one to other: NoPlace for one, then for other, BadTie."""
        if not self.net.tied(one, other):
            raise BadTie((one, other))
        return from_first(self.net.places, walk_beside(self._around, one, other))

    def in_turn(self, place, a, b, c):
        """Whether, in the wheel of place, from a on, b comes ahead of c: BadLook."""
        if not self._is_look(place, a, b, c):
            raise BadLook((place, a, b, c))
        return comes_ahead(self._around[place], a, b, c)

    def apart(self, ring, one, other):
        """Whether two things off the ring lie on unlike sides of it: BadRing, NotOff for one, then for other."""
        check_ring(self.net, ring)
        check_off(self.net, ring, one)
        check_off(self.net, ring, other)
        return self._is_left(ring, one) != self._is_left(ring, other)

    def _is_look(self, place, a, b, c):
        if place not in self.net:
            return False
        near = self.net[place]
        return a in near and b in near and c in near and a != b and a != c and b != c

    def _is_left(self, ring, thing):
        """Whether a thing lies on the left, as one goes round the ring in the order of its places."""
        part = [held for held in hanging(self.net, ring) if holds(held, thing)][0]
        foot, end = first_tie(self.net, part)
        at = ring.index(foot)
        # Clockwise from the place that one comes from, the left comes ahead of the place that one goes to.
        return self.in_turn(foot, ring[at - 1], end, ring[(at + 1) % len(ring)])
