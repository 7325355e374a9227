"""Nets, values and slow second opinions for the tests."""

import functools
import itertools
import math
import random
import unittest

from alldrawn.drawings import Drawing
from alldrawn.nets import Net


def text_of(places, ties):
    return "\n".join(["places " + " ".join(places)] + [f"tie {one} {other}" for one, other in ties])


def net_of(places, ties):
    """A Net from words: 'a b c', 'ab bc ca' (each letter a place)."""
    return Net(text_of(places.split(), [tuple(tie) for tie in ties.split()]))


TRIANGLE = net_of("a b c", "ab bc ca")
SQUARE = net_of("a b c d", "ab bc cd da")
KITE = net_of("a b c d", "ab bc cd da ac")
FOUR = net_of("a b c d", "ab bc cd da ac bd")
FIVE = net_of("a b c d e", "ab ac ad ae bc bd be cd ce de")
WHEEL = net_of("a b c d t u", "ab bc cd da ta tb tc td ua uc bd")
TWIG = net_of("a b c d t u", "ab bc cd da ta tc ua uc bd")
BALL = net_of("a b c d t u", "ab bc cd da ta tb tc td ua ub uc ud")
THREES = net_of("a b c x y z", "ax ay az bx by bz cx cy cz")
TENT = net_of("a b c d e f", "ab bc cd de ef fa ad be")
NETS = (TRIANGLE, SQUARE, KITE, FOUR, FIVE, WHEEL, TWIG, BALL, THREES, TENT)
# The nets whose wheels are few enough to try them all.
SMALL = (TRIANGLE, SQUARE, KITE, FOUR, TWIG, TENT)

LETTERS = "abcdefghijklmnop"
TEN = Net(text_of(LETTERS[:10], itertools.combinations(LETTERS[:10], 2)))
LONG_TIES = [(LETTERS[at - 1], LETTERS[at]) for at in range(16)]
LONG = Net(text_of(LETTERS, LONG_TIES))
FULL_TIES = (LONG_TIES + [(one, other) for one, other in itertools.combinations(LETTERS, 2)
                          if (one, other) not in LONG_TIES and (other, one) not in LONG_TIES])[:45]
FULL = Net(text_of(LETTERS, FULL_TIES))

FLAT = Drawing(KITE, (("b", "c", "d"), ("a", "c"), ("d", "a", "b"), ("a", "c")))

# A ring of sixteen places, and ties over each one of its places but two: each bars the next one.
CHAIN_TIES = LONG_TIES + [(LETTERS[at], LETTERS[at + 2]) for at in range(14)]
CHAIN = Net(text_of(LETTERS, CHAIN_TIES))
# With this tie the chain goes round, over an odd number of them: there is no drawing.
ODD = CHAIN + ("o", "b")


def nested(kind, inner):
    """A value that is nested 20 deep."""
    value = inner
    for _ in range(20):
        value = {"list": [value], "tuple": (value,), "dict": {"a": value}}[kind]
    return value


def wrong_values():
    """Values of all kinds, none of which is a place, a tie, a ring, wheels or a text."""
    return [
        None, True, False, 0, 1, -1, 10 ** 40 - 1, "", " ", "z", "A", "a ", "ab", "tie a b", "places", "abcdefghi",
        (), ("a",), ("a", "a"), ("a", 0), ("a", None), ("a", ["b"]), (["a"], "b"), (("a", "b"),), (("a",), ("b",)),
        ("a", "b", "q"), ("a", "b", "a"), ("a", "b", True), ("a", "b", KITE), (KITE, FLAT), ("a", {"b": "c"}),
        [], ["a"], ["a", "b"], ["a", "b", "c"], ["b", "d"], [["b", "c", "d"]], [("b", "c"), ("a", "c"), ("a", "b")],
        {}, {"a": "b"}, {"a": 0, "b": 1}, {"a": ("b", "c")}, {("a", "b"): None},
        nested("list", "a"), nested("tuple", "a"), nested("tuple", ("a", "b")), nested("dict", ["a", True]),
        TRIANGLE, KITE, LONG, FLAT, [KITE], {"a": FLAT},
    ]


class Case(unittest.TestCase):
    def refused(self, error, value, call, *given, **named):
        """The call raises just this error, with just this value."""
        with self.assertRaises(error) as caught:
            call(*given, **named)
        self.assertIs(type(caught.exception), error)
        self.same(caught.exception.value, value)

    def refused_itself(self, error, value, call, *given, **named):
        """The call raises just this error, with this very object."""
        with self.assertRaises(error) as caught:
            call(*given, **named)
        self.assertIs(type(caught.exception), error)
        self.assertIs(caught.exception.value, value)

    def same(self, found, expected):
        """Equal, with the same kinds of values inside: no list for a tuple, no True for 1."""
        self.assertEqual(found, expected)
        self.assertIs(type(found), type(expected))
        if isinstance(expected, (tuple, list)):
            for one, other in zip(found, expected):
                self.same(one, other)


def groups(places, ties):
    """Which places hang together by these ties: a list of sets."""
    found = [{place} for place in places]
    for tie in ties:
        joined = [group for group in found if group & set(tie)]
        found = [group for group in found if not group & set(tie)] + [set().union(*joined)]
    return found


def hang_together(places, ties):
    inside = [tie for tie in ties if tie[0] in places and tie[1] in places]
    return len(groups(places, inside)) == 1


def not_tied(places, ties):
    """(value,) of the NotTied that is due, or ()."""
    if not hang_together(places, ties):
        return (None,)
    bad = [place for place in places if not hang_together([other for other in places if other != place], ties)]
    return (bad[0],) if bad else ()


def rings_of(net):
    """All rings of a net, each from each of its places on, both ways round."""
    found = []
    roads = [(place,) for place in net.places]
    while roads:
        road = roads.pop()
        if len(road) >= 3 and net.tied(road[-1], road[0]):
            found.append(road)
        roads.extend(road + (place,) for place in net[road[-1]] if place not in road)
    return found


def rings_once(net):
    """Each ring of a net, told once: from its first place on, towards the earlier neighbour."""
    index = net.places.index
    return [ring for ring in rings_of(net)
            if min(map(index, ring)) == index(ring[0]) and index(ring[1]) < index(ring[-1])]


def own_ties(ring):
    return [{ring[at - 1], ring[at]} for at in range(len(ring))]


def wheels_of(net):
    """All tuples of wheels of a net, each wheel from the first neighbour on."""
    choices = [[near[:1] + rest for rest in itertools.permutations(near[1:])]
               for near in (net[place] for place in net.places)]
    return itertools.product(*choices)


def lands_of(net, wheels):
    """The lands of any wheels, each as a list of ways (one, other)."""
    after = {}
    for place, wheel in zip(net.places, wheels):
        for at, near in enumerate(wheel):
            after[near, place] = (place, wheel[(at + 1) % len(wheel)])
    lands = []
    while after:
        way = next(iter(after))
        land = []
        while way in after:
            land.append(way)
            way = after.pop(way)
        lands.append(land)
    return lands


def drawings_of(net):
    """All drawings of a net, by trying all wheels."""
    room = len(net.ties) - len(net.places) + 2
    return [Drawing(net, wheels) for wheels in wheels_of(net) if len(lands_of(net, wheels)) == room]


def things_off(net, ring):
    """All things off a ring, ties told both ways."""
    ties = [tie for tie in net.ties if set(tie) not in own_ties(ring)]
    return [place for place in net.places if place not in ring] + ties + [tie[::-1] for tie in ties]


def side_of(drawing, ring, thing):
    """The number of the side of a ring on which a thing lies: the lands are joined over all ties but its own."""
    lands = lands_of(drawing.net, drawing.wheels)
    beside = {way: number for number, land in enumerate(lands) for way in land}
    joined = [(beside[tie], beside[tie[::-1]]) for tie in drawing.net.ties if set(tie) not in own_ties(ring)]
    sides = groups(range(len(lands)), joined)
    assert len(sides) == 2
    way = thing if isinstance(thing, tuple) else (thing, drawing.net[thing][0])
    return [number for number, side in enumerate(sides) if beside[way] in side][0]


def free_ties(net):
    """All ties that a net does not have."""
    return [tie for tie in itertools.combinations(net.places, 2) if not net.tied(*tie)]


def wheel_from(drawing, place, near):
    """The wheel of a place, told from a neighbour on."""
    wheel = drawing.wheels[drawing.net.places.index(place)]
    return wheel[wheel.index(near):] + wheel[:wheel.index(near)]


def looks_of(net):
    """All looks at drawings of a net, ascending."""
    found = []
    for place in net.places:
        for three in itertools.combinations(net[place], 3):
            found += [(place,) + three, (place, three[0], three[2], three[1])]
    return sorted(found)


def look_is_so(drawing, look):
    told = wheel_from(drawing, look[0], look[1])
    return told.index(look[2]) < told.index(look[3])


def drawings_having(drawings, looks):
    return [drawing for drawing in drawings if all(look_is_so(drawing, look) for look in looks)]


def fewest_crossed(drawing, one, other):
    """How many ties a further tie crosses at the least in one drawing, from land to land."""
    lands = lands_of(drawing.net, drawing.wheels)
    beside = {way: number for number, land in enumerate(lands) for way in land}
    level = {beside[one, near] for near in drawing.net[one]}
    goal = {beside[other, near] for near in drawing.net[other]}
    number = 0
    while not level & goal:
        number += 1
        level |= {beside[way[::-1]] for land in level for way in lands[land]}
    return number


# Nets of all kinds.


@functools.lru_cache(maxsize=None)
def all_nets(many):
    """Each net of so many places once, by other names too."""
    places = tuple(LETTERS[:many])
    pairs = list(itertools.combinations(range(many), 2))
    number = {frozenset(pair): at for at, pair in enumerate(pairs)}
    others = [[1 << number[frozenset((order[a], order[b]))] for a, b in pairs]
              for order in itertools.permutations(range(many))]
    seen, found = set(), []
    for mask in range(1 << len(pairs)):
        at = [k for k in range(len(pairs)) if mask >> k & 1]
        if len(at) >= many and mask not in seen:
            seen.update(sum(order[k] for k in at) for order in others)
            ties = [(places[pairs[k][0]], places[pairs[k][1]]) for k in at]
            if not not_tied(places, ties):
                found.append(Net(text_of(places, ties)))
    return tuple(found)


def up_to(many):
    return [net for number in range(3, many + 1) for net in all_nets(number)]


@functools.lru_cache(maxsize=None)
def grown(seed, places=16, ties=42):
    """A net that grows road by road, in a drawing that is known: (net, lands)."""
    chance = random.Random(seed)
    first = 3 + seed % 4
    names = list(LETTERS[:first])
    lands = [tuple(names), tuple(names[::-1])]
    drawn = [(names[at - 1], names[at]) for at in range(first)]
    for _ in range(200):
        land = chance.choice(lands)
        one, other = chance.sample(land, 2)
        inner = tuple(LETTERS[len(names):len(names) + chance.choice((0, 0, 0, 1, 1, 2))])
        road = (one,) + inner + (other,)
        new = list(zip(road, road[1:]))
        if len(names) + len(inner) > places or len(drawn) + len(new) > ties:
            continue
        if not inner and {(one, other), (other, one)} & set(drawn):
            continue
        names.extend(inner)
        drawn.extend(new)
        lands.remove(land)
        lands.extend(parted(land, road))
    return Net(text_of(names, drawn)), tuple(lands)


def parted(land, road):
    """The two lands into which a road parts a land."""
    at, to = land.index(road[0]), land.index(road[-1])
    over = land[at:to + 1] if at < to else land[at:] + land[:to + 1]
    under = land[to:at + 1] if to < at else land[to:] + land[:at + 1]
    return [over[:-1] + road[:0:-1], under[:-1] + road[:-1]]


# For each letter another name, in another alphabetical sequence.
OTHER_NAMES = {letter: "zyxwvutsrqponmlkjihgfedcba"[at] * (1 + at * 5 % 8)
               for at, letter in enumerate("abcdefghijklmnopqrstuvwxyz")}


def renamed(net, names):
    """A net whose places have other names, by a dict."""
    return Net(text_of([names[place] for place in net.places], [(names[a], names[b]) for a, b in net.ties]))


def told_by(names, value):
    """A value in which other names stand for places."""
    if isinstance(value, tuple):
        return tuple(told_by(names, part) for part in value)
    return names.get(value, value)


def with_place_within(net, tie, place="zz"):
    """The net in which a tie is exchanged for two, by a new place between its ends."""
    ties = [other for other in net.ties if set(other) != set(tie)]
    return Net(text_of(net.places + (place,), ties + [(tie[0], place), (place, tie[1])]))


# Two places, and a road over each of the fourteen others between them; and a tie between them, too.
ROADS = Net(text_of(LETTERS, [(end, place) for end in "ab" for place in LETTERS[2:]]))
TIED_ROADS = ROADS + ("a", "b")
# A ring of six, and a further road over each tie of it.
SPROUT = net_of("a b c d e f g h i j k l", "ab bc cd de ef fa ag gb bh hc ci id dj je ek kf fl la")
# Three bundles of two roads each between three places, which are a row of thin ties alone.
THIN = net_of("a b c d e f g h i", "ad db ae eb bf fc bg gc ch ha ci ia")
# Bundles within bundles: between a and b hangs what has bundles between a and c, and between c and b.
DEEP = net_of("a b c d e f g h i j k", "ac cd da ae ec af fc cb cg gb ch hb ai ib aj jb ak kb")
# Stiff parts in a row, in a bundle, and in a stiff part.
HEAPS = net_of("a b c d e f g h i j k l", "ac ad cb db ch ci hi hd id ae af ef fb ej jk jl kl kb lb ag gb")


def tower(names, rings, beside, foot=(), top=()):
    """Ties of rings of three around the first one of some names, one ring around the other: (ties, names not used).

    Beside each tie of as many of the rings, from within, as beside tells, goes a road, too. foot and top are tied with
    the outermost ring: foot with all its places if there is no top, otherwise each one with two of them.
    """
    rest = list(names)
    inner, ties = [rest.pop(0)] * 3, []
    for number in range(rings):
        ring, rest = rest[:3], rest[3:]
        ties += [tie for tie in zip(inner, ring) if tie not in ties]
        for one, other in zip(ring, ring[1:] + ring[:1]):
            ties.append((one, other))
            if number < beside:
                within = rest.pop(0)
                ties += [(one, within), (within, other)]
        inner = ring
    ties += [(foot, near) for near in (inner[:2] if top else inner)]
    if top:
        ties += [(top, near) for near in inner[1:]]
    return ties, rest


# All drawings.


def around(net, lands):
    """The wheels that belong to these lands."""
    after = {}
    for land in lands:
        for at, place in enumerate(land):
            after[place, land[at - 1]] = land[(at + 1) % len(land)]
    wheels = []
    for place in net.places:
        wheel = [net[place][0]]
        while after[place, wheel[-1]] != wheel[0]:
            wheel.append(after[place, wheel[-1]])
        wheels.append(tuple(wheel))
    return tuple(wheels)


def roads_of(net):
    """A ring, and roads behind it, each from what is there to what is there, of which a net consists."""
    ring = min(rings_of_any(net), key=len)
    there, used, roads = list(ring), own_ties(ring), []
    while len(used) < len(net.ties):
        tails = [(place,) for place in there]
        while tails:
            tail = tails.pop(0)
            for place in net[tail[-1]]:
                if {tail[-1], place} in used or place in tail:
                    continue
                if place in there:
                    road = tail + (place,)
                    tails = []
                    break
                tails.append(tail + (place,))
        roads.append(road)
        there.extend(road[1:-1])
        used.extend(set(tie) for tie in zip(road, road[1:]))
    return ring, roads


def rings_of_any(net):
    """Some rings of a net: over each tie a shortest one."""
    found = []
    for one, other in net.ties:
        tails = [(one, other)]
        while not net.tied(tails[0][-1], one) or len(tails[0]) < 3:
            tail = tails.pop(0)
            tails.extend(tail + (place,) for place in net[tail[-1]] if place not in tail)
        found.append(tails[0])
    return found


@functools.lru_cache(maxsize=None)
def _drawings_by_roads(text):
    net = Net(text)
    ring, roads = roads_of(net)
    all_lands = [[ring, ring[::-1]]]
    for road in roads:
        all_lands = [[other for other in lands if other != land] + parted(land, road) for lands in all_lands
                     for land in lands if road[0] in land and road[-1] in land]
    return [Drawing(net, around(net, lands)) for lands in all_lands]


def drawings_by_roads(net):
    """All drawings of a net: each road is drawn through each land that has both its ends."""
    return _drawings_by_roads(net.text)


def count_wheels(net):
    return math.prod(math.factorial(len(net[place]) - 1) for place in net.places)


@functools.lru_cache(maxsize=None)
def _drawings_by_wheels(text):
    net = Net(text)
    ways = [(one, other) for one in net.places for other in net[one]]
    number = {way: at for at, way in enumerate(ways)}
    room = len(net.ties) - len(net.places) + 2
    choices = []
    for place in net.places:
        first, *rest = net[place]
        choices.append([])
        for order in itertools.permutations(rest):
            wheel = (first,) + order
            choices[-1].append((wheel, [(number[near, place], number[place, wheel[(at + 1) % len(wheel)]])
                                        for at, near in enumerate(wheel)]))
    found = []
    for chosen in itertools.product(*choices):
        after = [0] * len(ways)
        for _, steps in chosen:
            for way, ahead in steps:
                after[way] = ahead
        lands = 0
        for start in range(len(ways)):
            if after[start] >= 0:
                lands += 1
                while after[start] >= 0:
                    after[start], start = -1, after[start]
        if lands == room:
            found.append(Drawing(net, tuple(wheel for wheel, _ in chosen)))
    return found


def drawings_by_wheels(net):
    """All drawings of a net: all choices of wheels are gone through one by one."""
    return _drawings_by_wheels(net.text)


MOST_WHEELS = 130000


def all_drawings(net):
    """All drawings of a net, by wheels if there are few enough."""
    return drawings_by_wheels(net) if count_wheels(net) <= MOST_WHEELS else drawings_by_roads(net)


# Values that are nearly right.


def bent(value):
    """The same value, bent in one part, at any depth."""
    if isinstance(value, tuple):
        yield from (list(value), value + (None,), (value,), value[:-1], value[1:], value[::-1], dict(enumerate(value)))
        yield from (value + value[-1:], value[:1] + value)
        for at, part in enumerate(value):
            for other in bent(part):
                yield value[:at] + (other,) + value[at + 1:]
            yield value[:at] + value[at + 1:]
            yield value[:at] + (part, part) + value[at + 1:]
            if at:
                yield value[:at - 1] + (part, value[at - 1]) + value[at + 1:]
    elif isinstance(value, bool) or value is None:
        yield from (not value, 0, 1, "")
    elif isinstance(value, str):
        yield from (value + "a", value[:-1], "a", "b", "t", "", "q", 0, True, None, (value,), [value], {value: value})
    elif isinstance(value, int):
        yield from (value + 1, value - 1, value + 2, -value, bool(value), str(value), None, (value,), [value])
    elif isinstance(value, Drawing):
        yield from (~value, value.net, value.wheels, value.lands, None, "drawing", FLAT, (value,), [value])


def marked(value):
    """A value in which each part has its kind beside it, so that == is strict."""
    if isinstance(value, (tuple, list)):
        return type(value).__name__, [marked(part) for part in value]
    if isinstance(value, dict):
        return "dict", [(marked(key), marked(value[key])) for key in value]
    if isinstance(value, Drawing):
        return "Drawing", value.net.places, value.net.ties, value.wheels
    return type(value).__name__, str(value)


def is_tuple_of(value, check):
    return isinstance(value, tuple) and all(check(part) for part in value)


def right_stuck(places, tied, hubs, roads):
    """Whether hubs and roads are a stuck net, straight from section 7."""
    def is_name(value):
        return isinstance(value, str) and value in places

    if not is_tuple_of(hubs, is_name) or not is_tuple_of(roads, lambda road: is_tuple_of(road, is_name)):
        return False
    if hubs != tuple(sorted(set(hubs))):
        return False
    for at, road in enumerate(roads):
        others = {place for to, other in enumerate(roads) if to != at for place in other}
        if len(road) < 2 or len(set(road)) < len(road) or not {road[0], road[-1]} <= set(hubs):
            return False
        if set(road[1:-1]) & (set(hubs) | others) or not all(tied(*tie) for tie in zip(road, road[1:])):
            return False
    ends = sorted(sorted((road[0], road[-1])) for road in roads)
    if len(hubs) == 5:
        return ends == sorted(map(sorted, itertools.combinations(hubs, 2)))
    if len(hubs) != 6:
        return False
    return any(ends == sorted(sorted((one, other)) for one in three for other in set(hubs) - set(three))
               for three in itertools.combinations(hubs, 3))


def right_answer(value, yes, drawing_is_right, no, places, tied):
    """Whether a value is (yes, drawing) with a right drawing, or (no, hubs, roads) with a stuck net."""
    if not isinstance(value, tuple) or not value or not isinstance(value[0], str):
        return False
    if value[0] == yes and len(value) == 2:
        return isinstance(value[1], Drawing) and drawing_is_right(value[1])
    return value[0] == no and len(value) == 3 and right_stuck(places, tied, value[1], value[2])
