"""Nets: places, and ties between two places each."""

from alldrawn.basics import is_name, reached
from alldrawn.errors import BadNet, BadTie, Few, Full, NoPlace, NotTied

FEWEST_PLACES = 3
MOST_PLACES = 16
FEWEST_TIES = 3
MOST_TIES = 45


def read_places(line):
    """The places that the first line of a text names, () if it cannot stand there."""
    words = line.split(" ")
    names = words[1:]
    if words[0] != "places" or not FEWEST_PLACES <= len(names) <= MOST_PLACES:
        return ()
    if not all([is_name(name) for name in names]) or len(set(names)) < len(names):
        return ()
    return tuple(names)


def read_tie(line, places, ties):
    """The tie that a line behind these ties names, () if it cannot stand there."""
    words = line.split(" ")
    if len(words) != 3 or words[0] != "tie":
        return ()
    one, other = words[1], words[2]
    if one not in places or other not in places or one == other:
        return ()
    if (one, other) in ties or (other, one) in ties:
        return ()
    return one, other


def read_net(text):
    """The places and the ties that a text tells: BadNet."""
    if not isinstance(text, str):
        raise BadNet(0)
    lines = text.split("\n")
    places = read_places(lines[0])
    if not places:
        raise BadNet(1)
    ties = []
    for number, line in enumerate(lines[1:], start=2):
        tie = read_tie(line, places, ties)
        if not tie or len(ties) == MOST_TIES:
            raise BadNet(number)
        ties.append(tie)
    if len(ties) < FEWEST_TIES:
        raise BadNet(len(lines) + 1)
    return places, ties_in_sequence(places, ties)


def ties_in_sequence(places, ties):
    """These ties, each with its earlier place first, in the sequence of the places."""
    pairs = [(one, other) for at, one in enumerate(places) for other in places[at + 1:]]
    return tuple([(one, other) for one, other in pairs if (one, other) in ties or (other, one) in ties])


def neighbours(places, ties):
    """For each place the places tied with it, in sequence, as the ties are."""
    # The ties stand in sequence: so do the earlier neighbours, the later ones, and both behind one another.
    earlier = {place: [one for one, other in ties if other == place] for place in places}
    later = {place: [other for one, other in ties if one == place] for place in places}
    return {place: tuple(earlier[place] + later[place]) for place in places}


def check_well_tied(places, near):
    """NotTied, unless all places hang together, whichever one is left out."""
    if len(reached(near, places[0], places)) < len(places):
        raise NotTied(None)
    for place in places:
        others = [other for other in places if other != place]
        if len(reached(near, others[0], others)) < len(others):
            raise NotTied(place)


def net_of(places, ties):
    """The Net with these places and ties, which are in sequence: NotTied."""
    # Ahead of the text, as a text with too few ties would be refused with another error.
    check_well_tied(places, neighbours(places, ties))
    lines = ["places " + " ".join(places)] + [f"tie {one} {other}" for one, other in ties]
    return Net("\n".join(lines))


def check_place(net, value):
    """NoPlace, unless a value is a place of the net."""
    if value not in net:
        raise NoPlace(value)


def is_pair(net, value):
    """Whether any value is a tuple of two unlike places of the net."""
    if not isinstance(value, tuple) or len(value) != 2:
        return False
    return value[0] in net and value[1] in net and value[0] != value[1]


def is_tie(net, value):
    """Whether any value is a tuple of two tied places of the net, in either order."""
    return is_pair(net, value) and net.tied(value[0], value[1])


def is_free(net, value):
    """Whether any value is a tuple of two unlike places of the net that are not tied."""
    return is_pair(net, value) and not net.tied(value[0], value[1])


class Net:
    """A well tied net, told by its text."""

    def __init__(self, text):
        places, ties = read_net(text)
        near = neighbours(places, ties)
        check_well_tied(places, near)
        self.text = text
        self.places = places
        self.ties = ties
        self._near = near

    def __eq__(self, other):
        return isinstance(other, Net) and self.places == other.places and self.ties == other.ties

    def __len__(self):
        return len(self.places)

    def __contains__(self, x):
        return x in self.places

    def __getitem__(self, at):
        if at not in self.places:
            raise NoPlace(at)
        return self._near[at]

    # Without it, Python would try net[0], net[1] and so on.
    def __iter__(self):
        raise TypeError("a net is not iterated over")

    def tied(self, one, other):
        """Whether two places are tied: NoPlace for one, then for other."""
        check_place(self, one)
        check_place(self, other)
        return other in self._near[one]

    def __add__(self, other):
        if not is_free(self, other):
            raise BadTie(other)
        if len(self.ties) == MOST_TIES:
            raise Full(MOST_TIES)
        return net_of(self.places, ties_in_sequence(self.places, [*self.ties, other]))

    def __sub__(self, other):
        if not is_tie(self, other):
            raise BadTie(other)
        gone = ties_in_sequence(self.places, [other])
        return net_of(self.places, [tie for tie in self.ties if tie not in gone])

    def without(self, place):
        """The Net without this place and its ties: NoPlace, Few, NotTied."""
        check_place(self, place)
        if len(self.places) == FEWEST_PLACES:
            raise Few(FEWEST_PLACES)
        places = [other for other in self.places if other != place]
        return net_of(places, [tie for tie in self.ties if place not in tie])
