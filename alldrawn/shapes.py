"""How the parts of a net are drawn, each by itself, and how a drawing of the net is put together of that.

The own ties and the thin ties of a part are told as in the part, (one, other) and (one, other, number). Both are called
its sticks here. In this file whole is parts(net), and wheels are those of a part: a dict that has, for each place of
the part, its sticks there, clockwise.
"""

from math import factorial

from alldrawn.basics import from_member
from alldrawn.flat import drawing_of, wheels_in

NOWHERE = -1


def is_thin_tie(stick):
    """Whether a stick is a thin tie."""
    return len(stick) > 2


def far_end(stick, place):
    """The other end of a stick."""
    return stick[1] if stick[0] == place else stick[0]


def sticks_of(part):
    """The own ties of a part, and behind them its thin ties."""
    return part[2] + part[3]


def sticks_at(part, place):
    """The own ties and the thin ties of a part that have an end at a place."""
    return tuple([stick for stick in sticks_of(part) if place in stick[:2]])


def tree_from(whole, at, back):
    """All parts to which one comes on from one part, not going back: pairs of a number, and that of the one before.

    back is the number of the part from which one came, or NOWHERE.
    """
    found = [(at, back)]
    for _, _, to in whole[at][3]:
        if to != back:
            found = found + tree_from(whole, to, at)
    return found


def beyond(whole, at, thin):
    """The numbers of all parts to which one comes from one part over one of its thin ties."""
    return [number for number, _ in tree_from(whole, thin[2], at)]


def places_beyond(net, whole, at, thin):
    """The places beyond a thin tie of a part, in sequence, its ends not among them."""
    there = [place for number in beyond(whole, at, thin) for place in whole[number][1] if place not in thin[:2]]
    return tuple([place for place in net.places if place in there])


def ties_at(whole, at, stick):
    """The ties of the net that are at a stick of a part."""
    if not is_thin_tie(stick):
        return [stick]
    return [tie for number in beyond(whole, at, stick) for tie in whole[number][2]]


def stick_by_way(whole, at):
    """For each tie of the net, told both ways, the stick of a part at which it is: a dict."""
    return {way: stick for stick in sticks_of(whole[at]) for one, other in ties_at(whole, at, stick)
            for way in ((one, other), (other, one))}


def order_at(drawing, whole, at, place):
    """The sticks of a part at one of its places, clockwise, as they are in a drawing."""
    by_way = stick_by_way(whole, at)
    order = []
    for near in drawing.wheels[drawing.net.places.index(place)]:
        if by_way[place, near] not in order:
            order.append(by_way[place, near])
    return tuple(order)


def ways_of(part):
    """In how many ways a part can be drawn by itself, if it can be."""
    if part[0] == "stiff":
        return 2
    if part[0] == "bundle":
        return factorial(len(sticks_of(part)) - 1)
    return 1


def nth_order(sticks, number):
    """The order round with this number, from the first one of some sticks on."""
    order = sticks[:1]
    waiting = list(sticks[1:])
    rest = number
    while waiting:
        rest, at = divmod(rest, len(waiting))
        order = order + (waiting.pop(at),)
    return order


def number_of_order(sticks, order):
    """The number of an order round of some sticks: that with which nth_order tells it."""
    waiting = list(sticks[1:])
    number = 0
    step = 1
    for stick in from_member(order, sticks[0])[1:]:
        number = number + step * waiting.index(stick)
        step = step * len(waiting)
        waiting.remove(stick)
    return number


def stick_by_ends(part):
    """For each two places of a part that is no bundle, told both ways, the stick between them, if any: a dict."""
    return {(place, far_end(stick, place)): stick for place in part[1] for stick in sticks_at(part, place)}


def wheels_by_places(part):
    """The wheels of a part that is no bundle, as it is drawn one way, each stick being told by its other end."""
    return wheels_in({place: tuple([far_end(stick, place) for stick in sticks_at(part, place)]) for place in part[1]})


def first_wheels(part):
    """The wheels of a row, or of a stiff part as it is drawn one way."""
    by_ends = stick_by_ends(part)
    drawn = wheels_by_places(part)
    return {place: tuple([by_ends[place, near] for near in drawn[place]]) for place in drawn}


def nth_wheels(part, number):
    """The wheels of a part that can be drawn, in the way that has this number, from 0 to less than ways_of(part)."""
    if part[0] == "bundle":
        order = nth_order(sticks_of(part), number)
        return {part[1][0]: order, part[1][1]: order[::-1]}
    wheels = first_wheels(part)
    if number == 0:
        return wheels
    return {place: wheels[place][::-1] for place in wheels}


def number_within(drawing, whole, at):
    """The number of the way in which a part is drawn within a drawing."""
    part = whole[at]
    order = order_at(drawing, whole, at, part[1][0])
    if part[0] == "bundle":
        return number_of_order(sticks_of(part), order)
    return int(from_member(first_wheels(part)[part[1][0]], order[0]) != order)


def neighbours_over(chosen, at, stick, place):
    """The neighbours of a place at a stick of a part, clockwise: chosen are the wheels of all parts."""
    if not is_thin_tie(stick):
        return (far_end(stick, place),)
    to = stick[2]
    back = (stick[0], stick[1], at)
    found = ()
    for inner in from_member(chosen[to][place], back)[1:]:
        found = found + neighbours_over(chosen, to, inner, place)
    return found


def drawing_by_parts(net, chosen):
    """The Drawing of a net in which its parts have these wheels, each."""
    wheels = {}
    for place in net.places:
        at = [number for number, part_wheels in enumerate(chosen) if place in part_wheels][0]
        found = ()
        for stick in chosen[at][place]:
            found = found + neighbours_over(chosen, at, stick, place)
        wheels[place] = found
    return drawing_of(net, wheels)
