"""Nets, values and slow second opinions for the tests."""

import itertools
import unittest

from alldrawn.drawings import Drawing
from alldrawn.nets import Net


def text_of(places, ties):
    return "\n".join(["places " + " ".join(places)] + [f"tie {one} {other}" for one, other in ties])


def net_of(places, ties):
    """A Net from words: 'a b c', 'ab bc ca' (each letter a place)."""
    return Net(text_of(places.split(), [tuple(tie) for tie in ties.split()]))


TRIANGLE = net_of("a b c", "ab bc ca")
SQUARE = net_of("a b c d", "ab bc cd da")
KITE = net_of("a b c d", "ab bc cd da ac")
FOUR = net_of("a b c d", "ab bc cd da ac bd")
FIVE = net_of("a b c d e", "ab ac ad ae bc bd be cd ce de")
WHEEL = net_of("a b c d t u", "ab bc cd da ta tb tc td ua uc bd")
TWIG = net_of("a b c d t u", "ab bc cd da ta tc ua uc bd")
BALL = net_of("a b c d t u", "ab bc cd da ta tb tc td ua ub uc ud")
THREES = net_of("a b c x y z", "ax ay az bx by bz cx cy cz")
TENT = net_of("a b c d e f", "ab bc cd de ef fa ad be")
NETS = (TRIANGLE, SQUARE, KITE, FOUR, FIVE, WHEEL, TWIG, BALL, THREES, TENT)
# The nets whose wheels are few enough to try them all.
SMALL = (TRIANGLE, SQUARE, KITE, FOUR, TWIG, TENT)

LETTERS = "abcdefghijklmnop"
TEN = Net(text_of(LETTERS[:10], itertools.combinations(LETTERS[:10], 2)))
LONG_TIES = [(LETTERS[at - 1], LETTERS[at]) for at in range(16)]
LONG = Net(text_of(LETTERS, LONG_TIES))
FULL_TIES = (LONG_TIES + [(one, other) for one, other in itertools.combinations(LETTERS, 2)
                          if (one, other) not in LONG_TIES and (other, one) not in LONG_TIES])[:45]
FULL = Net(text_of(LETTERS, FULL_TIES))

FLAT = Drawing(KITE, (("b", "c", "d"), ("a", "c"), ("d", "a", "b"), ("a", "c")))


def nested(kind, inner):
    """A value that is nested 20 deep."""
    value = inner
    for _ in range(20):
        value = {"list": [value], "tuple": (value,), "dict": {"a": value}}[kind]
    return value


def wrong_values():
    """Values of all kinds, none of which is a place, a tie, a ring, wheels or a text."""
    return [
        None, True, False, 0, 1, -1, 10 ** 40 - 1, "", " ", "z", "A", "a ", "ab", "tie a b", "places", "abcdefghi",
        (), ("a",), ("a", "a"), ("a", 0), ("a", None), ("a", ["b"]), (["a"], "b"), (("a", "b"),), (("a",), ("b",)),
        ("a", "b", "q"), ("a", "b", "a"), ("a", "b", True), ("a", "b", KITE), (KITE, FLAT), ("a", {"b": "c"}),
        [], ["a"], ["a", "b"], ["a", "b", "c"], ["b", "d"], [["b", "c", "d"]], [("b", "c"), ("a", "c"), ("a", "b")],
        {}, {"a": "b"}, {"a": 0, "b": 1}, {"a": ("b", "c")}, {("a", "b"): None},
        nested("list", "a"), nested("tuple", "a"), nested("tuple", ("a", "b")), nested("dict", ["a", True]),
        TRIANGLE, KITE, LONG, FLAT, [KITE], {"a": FLAT},
    ]


class Case(unittest.TestCase):
    def refused(self, error, value, call, *given, **named):
        """The call raises just this error, with just this value."""
        with self.assertRaises(error) as caught:
            call(*given, **named)
        self.assertIs(type(caught.exception), error)
        self.same(caught.exception.value, value)

    def refused_itself(self, error, value, call, *given, **named):
        """The call raises just this error, with this very object."""
        with self.assertRaises(error) as caught:
            call(*given, **named)
        self.assertIs(type(caught.exception), error)
        self.assertIs(caught.exception.value, value)

    def same(self, found, expected):
        """Equal, with the same kinds of values inside: no list for a tuple, no True for 1."""
        self.assertEqual(found, expected)
        self.assertIs(type(found), type(expected))
        if isinstance(expected, (tuple, list)):
            for one, other in zip(found, expected):
                self.same(one, other)


def groups(places, ties):
    """Which places hang together by these ties: a list of sets."""
    found = [{place} for place in places]
    for tie in ties:
        joined = [group for group in found if group & set(tie)]
        found = [group for group in found if not group & set(tie)] + [set().union(*joined)]
    return found


def hang_together(places, ties):
    inside = [tie for tie in ties if tie[0] in places and tie[1] in places]
    return len(groups(places, inside)) == 1


def not_tied(places, ties):
    """(value,) of the NotTied that is due, or ()."""
    if not hang_together(places, ties):
        return (None,)
    bad = [place for place in places if not hang_together([other for other in places if other != place], ties)]
    return (bad[0],) if bad else ()


def rings_of(net):
    """All rings of a net, each from each of its places on, both ways round."""
    found = []
    roads = [(place,) for place in net.places]
    while roads:
        road = roads.pop()
        if len(road) >= 3 and net.tied(road[-1], road[0]):
            found.append(road)
        roads.extend(road + (place,) for place in net[road[-1]] if place not in road)
    return found


def rings_once(net):
    """Each ring of a net, told once: from its first place on, towards the earlier neighbour."""
    index = net.places.index
    return [ring for ring in rings_of(net)
            if min(map(index, ring)) == index(ring[0]) and index(ring[1]) < index(ring[-1])]


def own_ties(ring):
    return [{ring[at - 1], ring[at]} for at in range(len(ring))]


def wheels_of(net):
    """All tuples of wheels of a net, each wheel from the first neighbour on."""
    choices = [[near[:1] + rest for rest in itertools.permutations(near[1:])]
               for near in (net[place] for place in net.places)]
    return itertools.product(*choices)


def lands_of(net, wheels):
    """The lands of any wheels, each as a list of ways (one, other)."""
    after = {}
    for place, wheel in zip(net.places, wheels):
        for at, near in enumerate(wheel):
            after[near, place] = (place, wheel[(at + 1) % len(wheel)])
    lands = []
    while after:
        way = next(iter(after))
        land = []
        while way in after:
            land.append(way)
            way = after.pop(way)
        lands.append(land)
    return lands


def drawings_of(net):
    """All drawings of a net, by trying all wheels."""
    room = len(net.ties) - len(net.places) + 2
    return [Drawing(net, wheels) for wheels in wheels_of(net) if len(lands_of(net, wheels)) == room]


def things_off(net, ring):
    """All things off a ring, ties told both ways."""
    ties = [tie for tie in net.ties if set(tie) not in own_ties(ring)]
    return [place for place in net.places if place not in ring] + ties + [tie[::-1] for tie in ties]


def side_of(drawing, ring, thing):
    """The number of the side of a ring on which a thing lies: the lands are joined over all ties but its own."""
    lands = lands_of(drawing.net, drawing.wheels)
    beside = {way: number for number, land in enumerate(lands) for way in land}
    joined = [(beside[tie], beside[tie[::-1]]) for tie in drawing.net.ties if set(tie) not in own_ties(ring)]
    sides = groups(range(len(lands)), joined)
    assert len(sides) == 2
    way = thing if isinstance(thing, tuple) else (thing, drawing.net[thing][0])
    return [number for number, side in enumerate(sides) if beside[way] in side][0]
