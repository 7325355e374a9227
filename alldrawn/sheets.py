"""A sheet: a drawing that grows live, road by road."""

from alldrawn.basics import from_member, is_name
from alldrawn.drawings import Drawing
from alldrawn.errors import BadNames, BadTie, Full, NothingToRedo, NothingToUndo, NotThere, NoTrial, Tied
from alldrawn.flat import drawing_of
from alldrawn.nets import FEWEST_PLACES, MOST_PLACES, is_tie, net_of, ties_in_sequence
from alldrawn.turning import turned


def are_names(value):
    """Whether any value is a tuple of unlike names."""
    return isinstance(value, tuple) and all([is_name(name) for name in value]) and len(set(value)) == len(value)


def ring_drawing(names):
    """The one Drawing of a ring over these places."""
    ties = list(zip(names, names[1:] + names[:1]))
    net = net_of(names, ties_in_sequence(names, ties))
    return Drawing(net, tuple([net[place] for place in net.places]))


def around(drawing):
    """The wheel of each place of a drawing, as a dict."""
    return dict(zip(drawing.net.places, drawing.wheels))


def put_in(wheel, land, place, near):
    """The wheel of a place of a land with a further neighbour, to which a tie leads through this land."""
    before = from_member(land, place)[-1]
    # The land lies behind the neighbour from which it comes to the place.
    return from_member(wheel, before)[:1] + (near,) + from_member(wheel, before)[1:]


def with_road(drawing, land, road):
    """The Drawing in which a road is drawn through a land between two of its places."""
    net = drawing.net
    places = net.places + road[1:-1]
    ties = list(net.ties) + list(zip(road, road[1:]))
    wheels = around(drawing)
    wheels[road[0]] = put_in(wheels[road[0]], land, road[0], road[1])
    wheels[road[-1]] = put_in(wheels[road[-1]], land, road[-1], road[-2])
    for before, place, behind in zip(road, road[1:], road[2:]):
        wheels[place] = (before, behind)
    return drawing_of(net_of(places, ties_in_sequence(places, ties)), wheels)


def left_of(drawing, net):
    """The Drawing of a net that has some of the places and the ties of a drawing."""
    wheels = around(drawing)
    left = {place: tuple([near for near in wheels[place] if near in net[place]]) for place in net.places}
    return drawing_of(net, left)


def land_for(drawing, tie, one, other, inner):
    """The land of a drawing through which a road can be drawn: BadTie, NotThere, BadNames, Full, Tied."""
    net = drawing.net
    if not is_tie(net, tie):
        raise BadTie(tie)
    land = drawing.land(tie[0], tie[1])
    if one not in land:
        raise NotThere(one)
    if other not in land or other == one:
        raise NotThere(other)
    if not are_names(inner) or any([name in net for name in inner]):
        raise BadNames(inner)
    if len(net) + len(inner) > MOST_PLACES:
        raise Full(MOST_PLACES)
    if inner == () and net.tied(one, other):
        raise Tied((one, other))
    return land


class Moment:
    """What a sheet is like at one moment; it never changes.

    drawings are the first one, and those behind all deeds, also those that were taken back; lines are those of all
    these deeds; done tells how many of them stand.
    """

    def __init__(self, drawings, lines, done):
        self.drawings = drawings
        self.lines = lines
        self.done = done
        self.drawing = drawings[done]
        self.net = drawings[done].net
        self.journal = lines[:done]


class Trial:
    """A block within which what is done to a sheet is done on trial."""

    def __init__(self, sheet):
        self.sheet = sheet
        self.kept = None
        self.outer = None
        self.before = sheet.moment

    def __enter__(self):
        sheet = self.sheet
        self.outer = sheet.innermost
        self.before = sheet.moment
        sheet.innermost = self
        return sheet

    def __exit__(self, kind, value, trace):
        self.sheet.innermost = self.outer
        if kind is not None or self.kept is None:
            self.sheet.moment = self.before
            self.sheet.drawing = self.before.drawing
            self.sheet.net = self.before.net
            self.sheet.done = self.before.done
            self.sheet.journal = self.before.journal


class Sheet:
    """A drawing that grows: at first a ring over some names."""

    def __init__(self, names):
        if not are_names(names) or not FEWEST_PLACES <= len(names) <= MOST_PLACES:
            raise BadNames(names)
        self.innermost = None
        self._show(Moment((ring_drawing(names),), (), 0))

    def __eq__(self, other):
        return isinstance(other, Sheet) and self.drawing == other.drawing

    def __len__(self):
        return len(self.drawing.net.places)

    def __contains__(self, x):
        return x in self.drawing.lands

    def road(self, tie, one, other, inner=()):
        """Draw a road over new places through the land beside a tie: BadTie, NotThere, BadNames, Full, Tied."""
        land = land_for(self.drawing, tie, one, other, inner)
        drawing = with_road(self.drawing, land, (one, *inner, other))
        self._do(drawing, ["road", tie[0], tie[1], one, other, *inner])

    def turn(self, a, b, some):
        """Turn over some places that hang on the rest at two places: BadTurning."""
        drawing = turned(self.drawing, (a, b, some))
        self._do(drawing, ["turn", a, b, *some])

    def take(self, one, other):
        """Take a tie away: BadTie, NotTied."""
        self._do(left_of(self.drawing, self.net - (one, other)), ["take", one, other])

    def drop(self, place):
        """Take a place away, with its ties: NoPlace, Few, NotTied."""
        self._do(left_of(self.drawing, self.net.without(place)), ["drop", place])

    def undo(self):
        """Take the last deed back that stands: NothingToUndo."""
        if self.done == 0:
            raise NothingToUndo(None)
        self._show(Moment(self.moment.drawings, self.moment.lines, self.done - 1))

    def redo(self):
        """Do the deed again that was taken back last: NothingToRedo."""
        if self.done == len(self.moment.lines):
            raise NothingToRedo(None)
        self._show(Moment(self.moment.drawings, self.moment.lines, self.done + 1))

    def trial(self):
        """A block, behind which the sheet is as it was, unless keep was called in it, and no error left it."""
        return Trial(self)

    def keep(self):
        """Keep what is done in the innermost block: NoTrial."""
        block = self.innermost
        if block is None:
            raise NoTrial(None)
        block.kept = True

    def tried(self, look, *, keep=False):
        """What look returns of the sheet, which is called in a block; it is kept if keep is True."""
        with self.trial():
            told = look(self)
            if keep is True:
                self.keep()
        return told

    def copy(self):
        """An independent sheet, equal in all but the blocks."""
        other = Sheet(self.moment.drawings[0].net.places)
        other._show(self.moment)
        return other

    def _do(self, drawing, words):
        """Have a deed stand, told by words, behind which there is this drawing."""
        drawings = self.moment.drawings[:self.done + 1] + (drawing,)
        self._show(Moment(drawings, self.journal + (" ".join(words),), self.done + 1))

    def _show(self, moment):
        """Let the sheet be as at this moment."""
        self.moment = moment
        self.drawing = moment.drawing
        self.net = moment.net
        self.done = moment.done
        self.journal = moment.journal
