"""Looks at a drawing that nobody shows: what they make sure, and which further looks are enough to know it.

Each look is one at one part of the net, whatever the other parts are like: there it is a glance, told as (number of the
part, place, stick, stick, stick). whole is parts(net); glances are those of some looks, in their sequence.
"""

from alldrawn.basics import comes_ahead
from alldrawn.errors import Against, BadLook, BadLooks, TooMany
from alldrawn.flat import check_drawn, is_drawing_of, tells
from alldrawn.parts import parts
from alldrawn.shapes import drawing_by_parts, nth_wheels, stick_by_way, sticks_of, ways_of

MOST_LOOKS = 30
MOST_STICKS = 6
STICKS_AT_LOOK = 3


def is_look(net, value):
    """Whether any value is a look."""
    if not isinstance(value, tuple) or len(value) != 4 or value[0] not in net:
        return False
    near = net[value[0]]
    if not all([end in near for end in value[1:]]):
        return False
    a, b, c = [near.index(end) for end in value[1:]]
    return a < b and a < c and b != c


def are_looks(net, value):
    """Whether any value is an ascending tuple of looks, of any number."""
    if not isinstance(value, tuple) or not all([is_look(net, look) for look in value]):
        return False
    return list(value) == sorted(set(value))


def check_looks(net, looks):
    """BadLooks, unless a value is an ascending tuple of at most 30 looks."""
    if not are_looks(net, looks) or len(looks) > MOST_LOOKS:
        raise BadLooks(looks)


def glances_of(whole, looks):
    """The glances of some looks."""
    maps = [stick_by_way(whole, at) for at in range(len(whole))]
    return [glance_of(whole, maps, look) for look in looks]


def glance_of(whole, maps, look):
    """The glance of a look: maps has, for each part, the stick of each tie."""
    place, a, b, c = look
    glances = [(at, place, maps[at][place, a], maps[at][place, b], maps[at][place, c])
               for at, part in enumerate(whole) if place in part[1]]
    return [glance for glance in glances if len(set(glance[2:])) == STICKS_AT_LOOK][0]


def check_few(some):
    """TooMany, if one of some parts is a bundle of too many own ties and thin ties."""
    if any([part[0] == "bundle" and len(sticks_of(part)) > MOST_STICKS for part in some]):
        raise TooMany(MOST_STICKS)


def is_so(wheels, glance):
    """Whether a look is so, if its part has these wheels."""
    _, place, a, b, c = glance
    return comes_ahead(wheels[place], a, b, c)


def has_all(wheels, glances):
    """Whether looks are so, all at one part, if it has these wheels."""
    return all([is_so(wheels, glance) for glance in glances])


def glances_at(glances, at):
    """Those glances that are at one part."""
    return [glance for glance in glances if glance[0] == at]


def wheels_having(whole, at, glances):
    """All wheels of a part by which it has the looks."""
    ours = glances_at(glances, at)
    all_wheels = [nth_wheels(whole[at], number) for number in range(ways_of(whole[at]))]
    return [wheels for wheels in all_wheels if has_all(wheels, ours)]


def parts_seen(glances):
    """The numbers of the parts of some looks, each once."""
    return sorted(set([glance[0] for glance in glances]))


def are_had(whole, glances):
    """Whether some drawing has the looks."""
    return all([wheels_having(whole, at, glances) for at in parts_seen(glances)])


def check_had(whole, glances):
    """Against, unless some drawing has the looks."""
    if not are_had(whole, glances):
        raise Against(None)


def looked_at(net, looks):
    """The parts of a net, and the glances of looks, which are right: TooMany, NoDrawing."""
    whole = parts(net)
    glances = glances_of(whole, looks)
    check_few([whole[glance[0]] for glance in glances])
    check_drawn(net)
    return whole, glances


def left(net, looks):
    """How many drawings have these looks: BadLooks, TooMany, NoDrawing."""
    check_looks(net, looks)
    whole, glances = looked_at(net, looks)
    number = 1
    for at, part in enumerate(whole):
        # Parts at which nobody looked can have too many ways to go through them.
        if glances_at(glances, at):
            number = number * len(wheels_having(whole, at, glances))
        else:
            number = number * ways_of(part)
    return number


def drawing_having(net, whole, glances):
    """Any Drawing that has the looks; some drawing has them."""
    seen = parts_seen(glances)
    return drawing_by_parts(net, [wheels_having(whole, at, glances)[0] if at in seen else nth_wheels(part, 0)
                                  for at, part in enumerate(whole)])


def contrary(glance):
    """The glance of the contrary of a look."""
    at, place, a, b, c = glance
    return at, place, a, c, b


def asked_about(net, looks, look):
    """The parts of a net, the glances of looks, and that of a further look.

    BadLooks, BadLook, TooMany, NoDrawing, Against.
    """
    check_looks(net, looks)
    if not is_look(net, look):
        raise BadLook(look)
    whole, glances = looked_at(net, (*looks, look))
    check_had(whole, glances[:-1])
    return whole, glances[:-1], glances[-1]


def sure(net, looks, look):
    """Whether a look is so in all drawings that have the looks: BadLooks, BadLook, TooMany, NoDrawing, Against.

    ("so",), ("not",), or ("open", drawing, drawing).
    """
    whole, glances, glance = asked_about(net, looks, look)
    if not are_had(whole, glances + [contrary(glance)]):
        return ("so",)
    if not are_had(whole, glances + [glance]):
        return ("not",)
    return ("open", drawing_having(net, whole, glances + [glance]),
            drawing_having(net, whole, glances + [contrary(glance)]))


def is_drawing_having(net, looks, value):
    """Whether any value is a Drawing of the net that has the looks."""
    return is_drawing_of(net, value) and all([value.in_turn(*look) for look in looks])


def shows_sure(net, looks, look, value):
    """Whether any value is a correct result of sure: BadLooks, BadLook, TooMany, NoDrawing, Against."""
    whole, glances, glance = asked_about(net, looks, look)
    if tells(value, "so", 1):
        return not are_had(whole, glances + [contrary(glance)])
    if tells(value, "not", 1):
        return not are_had(whole, glances + [glance])
    if not tells(value, "open", 3):
        return False
    place, a, b, c = look
    return (is_drawing_having(net, (*looks, look), value[1])
            and is_drawing_having(net, (*looks, (place, a, c, b)), value[2]))


def others(some, number):
    """All members of a list or tuple but the one that stands at this place."""
    return [member for at, member in enumerate(some) if at != number]


def clash(net, looks):
    """() if some drawing has the looks, otherwise some of them that no drawing has, while none of them can be left out.

    BadLooks, TooMany, NoDrawing.
    """
    check_looks(net, looks)
    whole, glances = looked_at(net, looks)
    if are_had(whole, glances):
        return ()
    kept = list(range(len(looks)))
    for number in range(len(looks)):
        fewer = [other for other in kept if other != number]
        if not are_had(whole, [glances[other] for other in fewer]):
            kept = fewer
    return tuple([looks[number] for number in kept])


def shows_clash(net, looks, value):
    """Whether any value is a correct result of clash: BadLooks, TooMany, NoDrawing."""
    check_looks(net, looks)
    whole, glances = looked_at(net, looks)
    if are_had(whole, glances):
        return value == ()
    if not are_looks(net, value) or not all([look in looks for look in value]):
        return False
    some = glances_of(whole, value)
    return not are_had(whole, some) and all([are_had(whole, others(some, number)) for number in range(len(some))])


def needless(net, looks):
    """Those looks each of which is so in all drawings that have all the others.

    BadLooks, TooMany, NoDrawing, Against.
    """
    check_looks(net, looks)
    whole, glances = looked_at(net, looks)
    check_had(whole, glances)
    return tuple([look for number, look in enumerate(looks)
                  if not are_had(whole, others(glances, number) + [contrary(glances[number])])])


def looks_at(net, whole, at):
    """Looks at a part from its first place, for each three of the sticks there one."""
    place = whole[at][1][0]
    by_way = stick_by_way(whole, at)
    firsts = {}
    for near in net[place]:
        firsts.setdefault(by_way[place, near], near)
    ends = list(firsts.values())
    return [(place, a, b, c) for i, a in enumerate(ends) for j, b in enumerate(ends) if i < j for c in ends[j + 1:]]


def tell_apart(all_wheels, glances):
    """Whether, of any two of these wheels of a part, at least one of these looks, all at it, is so by just one."""
    return len(set([tuple([is_so(wheels, glance) for glance in glances]) for wheels in all_wheels])) == len(all_wheels)


def asks_at(net, whole, at, glances):
    """Looks at a part that tell apart all its wheels that have the looks of these glances; none can be left out."""
    all_wheels = wheels_having(whole, at, glances)
    looks = looks_at(net, whole, at)
    seen = glances_of(whole, looks)
    kept = list(range(len(looks)))
    for number in range(len(looks)):
        fewer = [other for other in kept if other != number]
        if tell_apart(all_wheels, [seen[other] for other in fewer]):
            kept = fewer
    return [looks[number] for number in kept]


def asked_at_all(net, looks):
    """The parts of a net, and the glances of looks: BadLooks, TooMany, NoDrawing, Against.

    TooMany, too, if there is any bundle of too many own ties and thin ties.
    """
    check_looks(net, looks)
    check_few(parts(net))
    whole, glances = looked_at(net, looks)
    check_had(whole, glances)
    return whole, glances


def asks(net, looks):
    """Further looks that tell apart all drawings that have the looks; none of them can be left out.

    BadLooks, TooMany, NoDrawing, Against.
    """
    whole, glances = asked_at_all(net, looks)
    return tuple(sorted([look for at in range(len(whole)) for look in asks_at(net, whole, at, glances)]))


def are_least(all_wheels, glances):
    """Whether looks, all at one part, tell apart all these wheels of it, and none of the looks can be left out."""
    if not tell_apart(all_wheels, glances):
        return False
    for number in range(len(glances)):
        # The first needless one tells it: there can be hundreds of looks.
        if tell_apart(all_wheels, others(glances, number)):
            return False
    return True


def shows_asks(net, looks, value):
    """Whether any value is a correct result of asks: BadLooks, TooMany, NoDrawing, Against."""
    whole, glances = asked_at_all(net, looks)
    if not are_looks(net, value):
        return False
    asked = glances_of(whole, value)
    return all([are_least(wheels_having(whole, at, glances), glances_at(asked, at)) for at in range(len(whole))])
