"""What lies on which side of a ring, in all drawings, and which rings are lands."""

from alldrawn.basics import from_first, is_number
from alldrawn.flat import check_drawn, drawing_of, grow, is_drawing_of, near_of, tells, wheels_of
from alldrawn.rings import barring, check_off, check_ring, hanging, holds


def number_holding(parts, thing):
    """The number of the hanging part that holds a thing off the ring."""
    return [number for number, part in enumerate(parts) if holds(part, thing)][0]


def chains_from(pairs, start):
    """For each hanging part to which chains lead from one, a shortest such chain: a dict, by numbers.

    pairs are those that bar one another.
    """
    chains = {start: (start,)}
    queue = [start]
    at = 0
    while at < len(queue):
        here = queue[at]
        for one, other in pairs + tuple([(j, i) for i, j in pairs]):
            if one == here and other not in chains:
                chains[other] = chains[here] + (other,)
                queue.append(other)
        at = at + 1
    return chains


def is_odd(chain):
    """Whether the first and the last member of a chain lie on one side of the ring."""
    return len(chain) % 2 == 1


def shared_out(many, pairs, given):
    """A side, 0 or 1, for each of many hanging parts, as a list: no two that bar one another are on one side.

    given are pairs (number, side) for some of them to which no chains lead from one another.
    """
    shares = {}
    for number, side in given + [(number, 0) for number in range(many)]:
        if number not in shares:
            chains = chains_from(pairs, number)
            for other in chains:
                shares[other] = side if is_odd(chains[other]) else 1 - side
    return [shares[number] for number in range(many)]


def drawing_with(net, ring, shares):
    """Any Drawing in which the hanging parts of a ring lie on these sides of it."""
    wanted = {}
    for (places, feet), side in zip(hanging(net, ring), shares):
        for place in places:
            wanted[place] = side
        if not places:
            wanted[feet] = side
    near = near_of(net)
    return drawing_of(net, wheels_of(near, grow(near, ring, wanted)))


def check_asked(net, ring, one, other):
    """BadRing, NotOff for one, then for other, NoDrawing."""
    check_ring(net, ring)
    check_off(net, ring, one)
    check_off(net, ring, other)
    check_drawn(net)


def sides(net, ring, one, other):
    """On which sides of a ring two things off it lie: BadRing, NotOff for one, then for other, NoDrawing.

    ("together", chain), ("apart", chain), or ("open", drawing, drawing).
    """
    check_asked(net, ring, one, other)
    parts = hanging(net, ring)
    pairs = barring(net, ring)
    start = number_holding(parts, one)
    end = number_holding(parts, other)
    chains = chains_from(pairs, start)
    if end in chains:
        word = "together" if is_odd(chains[end]) else "apart"
        return word, chains[end]
    shares = [shared_out(len(parts), pairs, [(start, 0), (end, side)]) for side in (0, 1)]
    return "open", drawing_with(net, ring, shares[0]), drawing_with(net, ring, shares[1])


def is_chain(parts, pairs, value):
    """Whether any value is a chain: a tuple of numbers of hanging parts, each of which bars the next one."""
    if not isinstance(value, tuple) or not value or not all([is_number(number, len(parts)) for number in value]):
        return False
    return all([(min(i, j), max(i, j)) in pairs for i, j in zip(value, value[1:])])


def shows_sides(net, ring, one, other, value):
    """Whether any value is a correct result of sides: BadRing, NotOff for one, then for other, NoDrawing."""
    check_asked(net, ring, one, other)
    if tells(value, "open", 3):
        if not is_drawing_of(net, value[1]) or not is_drawing_of(net, value[2]):
            return False
        return not value[1].apart(ring, one, other) and value[2].apart(ring, one, other)
    parts = hanging(net, ring)
    if not tells(value, "together", 2) and not tells(value, "apart", 2):
        return False
    word, chain = value
    if not is_chain(parts, barring(net, ring), chain) or is_odd(chain) != (word == "together"):
        return False
    return holds(parts[chain[0]], one) and holds(parts[chain[-1]], other)


def check_land_asked(net, ring):
    """BadRing, NoDrawing."""
    check_ring(net, ring)
    check_drawn(net)


def as_land(net, ring):
    """Whether a ring is a land, told from any of its places on, either way round: BadRing, NoDrawing.

    ("always",), ("never", i, j), or ("open", drawing, drawing).
    """
    check_land_asked(net, ring)
    many = len(hanging(net, ring))
    pairs = barring(net, ring)
    if many <= 1:
        return ("always",)
    if pairs:
        return ("never", *pairs[0])
    alone = [0] + [1] * (many - 1)
    return "open", drawing_with(net, ring, [0] * many), drawing_with(net, ring, alone)


def is_land(drawing, ring):
    """Whether a ring is a land of a drawing, told from any of its places on, either way round."""
    places = drawing.net.places
    return from_first(places, ring) in drawing or from_first(places, ring[::-1]) in drawing


def shows_as_land(net, ring, value):
    """Whether any value is a correct result of as_land: BadRing, NoDrawing."""
    check_land_asked(net, ring)
    many = len(hanging(net, ring))
    if tells(value, "always", 1):
        return many <= 1
    if tells(value, "never", 3):
        numbers = value[1:]
        return all([is_number(number, many) for number in numbers]) and numbers in barring(net, ring)
    if not tells(value, "open", 3) or not is_drawing_of(net, value[1]) or not is_drawing_of(net, value[2]):
        return False
    return is_land(value[1], ring) and not is_land(value[2], ring)
