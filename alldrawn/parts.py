"""The parts into which a net falls at pairs of places.

A net falls by splitting: where two or more ties hang on the rest, two or more ties, at just two places, a new thin tie
between these places is added to both. A tie is told here as (one, other, number), one ahead of other in sequence:
number is 0 for an own tie, and the number of a thin tie is its own. Rows that share a thin tie are joined again, and so
are bundles: then it does not matter where the net was split first.
"""

from alldrawn.basics import is_number, pieces

OWN = 0
SORTS = ("row", "bundle", "stiff")
FEWEST_SPLIT = 2


def places_at(places, ties):
    """The places at the ends of some ties, in sequence."""
    ends = [place for one, other, _ in ties for place in (one, other)]
    return tuple([place for place in places if place in ends])


def groups_between(ties, places, one, other):
    """For each piece that is left without two of the places, all ties that have an end in it: a list of lists."""
    off = [place for place in places if place not in (one, other)]
    near = {place: [] for place in places}
    for start, end, _ in ties:
        near[start].append(end)
        near[end].append(start)
    return [[tie for tie in ties if tie[0] in piece or tie[1] in piece] for piece in pieces(near, off)]


def sort_of(places, ties):
    """The sort of a part."""
    if len(places) == 2:
        return "bundle"
    if len(places) == len(ties):
        return "row"
    return "stiff"


def split_at(places, ties):
    """A split of some ties: (some of them, one, other), hanging on the others at two places; () if there is none."""
    there = places_at(places, ties)
    if sort_of(there, ties) != "stiff":
        return ()
    for at, one in enumerate(there):
        for other in there[at + 1:]:
            for group in groups_between(ties, there, one, other):
                if FEWEST_SPLIT <= len(group) <= len(ties) - FEWEST_SPLIT:
                    return group, one, other
    return ()


def fall(places, ties):
    """The ties of all parts into which these ties fall by splitting alone, as a list of lists; how many thin ties."""
    groups = []
    waiting = [ties]
    thin = 0
    while waiting:
        whole = waiting.pop()
        split = split_at(places, whole)
        if not split:
            groups.append(whole)
        else:
            some, one, other = split
            thin = thin + 1
            waiting.append(some + [(one, other, thin)])
            waiting.append([tie for tie in whole if tie not in some] + [(one, other, thin)])
    return groups, thin


def joined(places, groups, number):
    """The groups, those two being one that share this thin tie, if they are two rows or two bundles."""
    sharing = [group for group in groups if number in [tie[2] for tie in group]]
    sorts = [sort_of(places_at(places, group), group) for group in sharing]
    if sorts[0] != sorts[1] or sorts[0] == "stiff":
        return groups
    whole = [tie for group in sharing for tie in group if tie[2] != number]
    return [group for group in groups if group not in sharing] + [whole]


def fallen(net):
    """The ties of all right parts of a net: a list of lists."""
    groups, many = fall(net.places, [(one, other, OWN) for one, other in net.ties])
    for number in range(1, many + 1):
        groups = joined(net.places, groups, number)
    return groups


def told(net, groups, at):
    """The part that has one group of the ties: (word, places, ties, thin)."""
    group = groups[at]
    places = places_at(net.places, group)
    own = tuple([(one, other) for one, other in net.ties if (one, other, OWN) in group])
    # A thin tie is a member of just two groups, an own tie of one.
    thin = [(one, other, to) for to, sharing in enumerate(groups) if to != at
            for one, other, number in group if (one, other, number) in sharing]
    return sort_of(places, group), places, own, tuple(sorted(thin))


def parts(net):
    """The right parts of a net, each as (word, places, ties, thin), in any sequence."""
    groups = fallen(net)
    return tuple([told(net, groups, at) for at in range(len(groups))])


def is_thin(net, many, value):
    """Whether any value tells a thin tie, shared with one of so many parts: (one, other, number)."""
    if not isinstance(value, tuple) or len(value) != 3:
        return False
    return value[0] in net and value[1] in net and is_number(value[2], many)


def is_part(net, many, value):
    """Whether any value tells one of so many parts of a net, right or not."""
    if not isinstance(value, tuple) or len(value) != 4:
        return False
    word, places, ties, thin = value
    if word not in SORTS or not isinstance(places, tuple) or not isinstance(ties, tuple) or not isinstance(thin, tuple):
        return False
    if not all([place in net for place in places]) or not all([tie in net.ties for tie in ties]):
        return False
    return all([is_thin(net, many, tie) for tie in thin]) and list(thin) == sorted(set(thin))


def by_places(value):
    """The parts, ascending, each thin tie with the places of the part with which it is shared, for its number."""
    return sorted([(word, places, ties, sorted([(one, other, value[number][1]) for one, other, number in thin]))
                   for word, places, ties, thin in value])


def shows_parts(net, value):
    """Whether any value is a correct result of parts."""
    if not isinstance(value, tuple) or not all([is_part(net, len(value), part) for part in value]):
        return False
    # A net has one choice of right parts, and no two of them have the same places: only the numbers are free.
    return by_places(value) == by_places(parts(net))
