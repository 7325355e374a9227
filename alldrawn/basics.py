"""Small helpers that several modules share."""

LETTERS = "abcdefghijklmnopqrstuvwxyz"
LONGEST_NAME = 8


def is_name(value):
    """Whether any value is a name: a string of 1 to 8 letters a to z."""
    if not isinstance(value, str) or not 1 <= len(value) <= LONGEST_NAME:
        return False
    return all([letter in LETTERS for letter in value])


def is_number(value, many):
    """Whether any value is one of so many numbers: an integer, no bool, from 0 on."""
    return isinstance(value, int) and not isinstance(value, bool) and 0 <= value < many


def pairs_round(cycle):
    """Each member of a cycle with the next one, the last one with the first: a list of pairs."""
    return list(zip(cycle, cycle[1:] + cycle[:1]))


def from_member(cycle, member):
    """A cycle, told from one of its members on."""
    at = cycle.index(member)
    return cycle[at:] + cycle[:at]


def from_first(places, cycle):
    """A cycle of some of these places, told from the one on that is the first in `places`."""
    return from_member(cycle, [place for place in places if place in cycle][0])


def comes_ahead(cycle, a, b, c):
    """Whether, in a cycle, from its member a on, b comes ahead of c."""
    told = from_member(cycle, a)
    return told.index(b) < told.index(c)


def ends_of_run(cycle, some):
    """How often, in a cycle, one of some members is followed by another member: once, if they stand together."""
    return len([one for one, other in pairs_round(cycle) if one in some and other not in some])


def reached(near, start, some):
    """The places among some to which ties among some lead from start, start too, in the order of some.

    near[place] are the neighbours of a place: near can be a Net, or a dict.
    """
    found = [start]
    at = 0
    while at < len(found):
        fresh = [place for place in near[found[at]] if place in some and place not in found]
        found = found + fresh
        at = at + 1
    return tuple([place for place in some if place in found])


def pieces(near, some):
    """The sets of places among some that hang together by ties among some: a list of tuples."""
    found = []
    for start in some:
        if not any([start in piece for piece in found]):
            found.append(reached(near, start, some))
    return found
