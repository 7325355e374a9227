"""Turning over, in a drawing, what hangs on the rest at two places."""

from alldrawn.basics import ends_of_run, from_member, pieces
from alldrawn.drawings import Drawing
from alldrawn.errors import BadTurning, OtherNet
from alldrawn.nets import is_pair
from alldrawn.parts import parts
from alldrawn.shapes import NOWHERE, order_at, places_beyond, sticks_of, tree_from


def wheel_of(drawing, place):
    """The wheel of a place."""
    return drawing.wheels[drawing.net.places.index(place)]


def is_whole(net, a, b, some):
    """Whether any value is a tuple of all places, in sequence, of one or more pieces that a and b leave."""
    if not isinstance(some, tuple) or not some or a in some or b in some:
        return False
    if some != tuple([place for place in net.places if place in some]):
        return False
    off = [place for place in net.places if place not in (a, b)]
    return all([(place in some) == (piece[0] in some) for piece in pieces(net, off) for place in piece])


def is_turning(drawing, value):
    """Whether any value is a turning of a drawing."""
    if not isinstance(value, tuple) or len(value) != 3 or not is_pair(drawing.net, value[:2]):
        return False
    a, b, some = value
    places = drawing.net.places
    if places.index(a) > places.index(b) or not is_whole(drawing.net, a, b, some):
        return False
    return ends_of_run(wheel_of(drawing, a), some) <= 1 and ends_of_run(wheel_of(drawing, b), some) <= 1


def turned_among(wheel, some):
    """A wheel in which the neighbours among some, which stand together, stand in the contrary order."""
    others = [near for near in wheel if near not in some]
    if not others:
        return wheel[::-1]
    # Told from another neighbour on behind which they stand, they are not parted by the end of the wheel.
    first = [near for near, behind in zip(wheel, wheel[1:] + wheel[:1]) if near not in some and behind in some][0]
    told = from_member(wheel, first)
    block = tuple([near for near in told if near in some])
    return told[:1] + block[::-1] + told[1 + len(block):]


def turn_over(drawing, turning):
    """The Drawing behind a turning of a drawing."""
    a, b, some = turning
    wheels = []
    for place, wheel in zip(drawing.net.places, drawing.wheels):
        if place in some:
            wheels.append(wheel[::-1])
        elif place in (a, b):
            wheels.append(turned_among(wheel, some))
        else:
            wheels.append(wheel)
    return Drawing(drawing.net, tuple(wheels))


def turned(drawing, value):
    """The Drawing behind a turning of a drawing: BadTurning."""
    if not is_turning(drawing, value):
        raise BadTurning(value)
    return turn_over(drawing, value)


def all_turned(drawing, turnings):
    """The Drawing behind some turnings, one behind the other."""
    now = drawing
    for turning in turnings:
        now = turn_over(now, turning)
    return now


def check_other(one, other):
    """OtherNet, unless two drawings are of one net."""
    if one.net != other.net:
        raise OtherNet(other)


def is_contrary(one, other, whole, at):
    """Whether a stiff part is drawn otherwise in two drawings."""
    place = whole[at][1][0]
    order = order_at(one, whole, at, place)
    return order != from_member(order_at(other, whole, at, place), order[0])


def turning_with(net, whole, at, back):
    """The turning of a stiff part, and all to which one comes on from it, not going back."""
    if back == NOWHERE:
        return net.places[0], net.places[1], net.places[2:]
    one, other, _ = [thin for thin in whole[at][3] if thin[2] == back][0]
    return one, other, places_beyond(net, whole, back, (one, other, at))


def turns_of_stiff(one, other, whole):
    """Turnings of a drawing behind which all stiff parts are drawn as in another one."""
    made = ()
    now = one
    # A turning takes along what is farther from the first part: so this is looked at behind it.
    for at, back in tree_from(whole, 0, NOWHERE):
        if whole[at][0] == "stiff" and is_contrary(now, other, whole, at):
            turning = turning_with(one.net, whole, at, back)
            made = made + (turning,)
            now = turn_over(now, turning)
    return made


def exchanged(net, whole, at, run):
    """Turnings that put the thin ties of a run, which stand side by side in a bundle, in the contrary order.

    What is beyond them stays as it is drawn: it is turned over with the run, and then by itself.
    """
    hanging = [places_beyond(net, whole, at, thin) for thin in run]
    both = tuple([place for place in net.places if any([place in some for some in hanging])])
    a, b = whole[at][1]
    return tuple([(a, b, some) for some in [both] + hanging])


def turns_of_bundle(one, other, whole, at):
    """Turnings of a drawing behind which a bundle is drawn as in another one, and all else as before."""
    place = whole[at][1][0]
    # An own tie, which comes first, has no places that could be turned: so the first one stays.
    fixed = sticks_of(whole[at])[0]
    now = from_member(order_at(one, whole, at, place), fixed)
    due = from_member(order_at(other, whole, at, place), fixed)
    made = ()
    for number in range(1, len(due)):
        to = now.index(due[number])
        if to > number:
            run = now[number:to + 1]
            made = made + exchanged(one.net, whole, at, run)
            now = now[:number] + run[::-1] + now[to + 1:]
    return made


def turns(one, other):
    """Any turnings by which one comes from one drawing to another one, one behind the other: OtherNet."""
    check_other(one, other)
    whole = parts(one.net)
    made = turns_of_stiff(one, other, whole)
    now = all_turned(one, made)
    for at, part in enumerate(whole):
        if part[0] == "bundle":
            # What is done to one bundle leaves the others as they are.
            made = made + turns_of_bundle(now, other, whole, at)
    return made


def shows_turns(one, other, value):
    """Whether any value is a correct result of turns: OtherNet."""
    check_other(one, other)
    if not isinstance(value, tuple):
        return False
    now = one
    for turning in value:
        if not is_turning(now, turning):
            return False
        now = turn_over(now, turning)
    return now == other
