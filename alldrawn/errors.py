"""All errors of the package."""


class DrawError(ValueError):
    """What was asked for cannot be: `value` tells what was refused."""

    def __init__(self, value):
        self.value = value


class BadNet(DrawError):
    """A text is not that of a net: the number of its first line that cannot stand there."""


class NotTied(DrawError):
    """A net is not well tied: the place without which the others do not hang together."""


class NoPlace(DrawError):
    """A value is not a place of the net."""


class BadTie(DrawError):
    """A value is not such a tie as is asked for."""


class Full(DrawError):
    """There is no room for more: the most that there can be."""


class Few(DrawError):
    """There are too few to go on: the fewest that there can be."""


class BadRing(DrawError):
    """A value is not a ring of the net."""


class BadWheels(DrawError):
    """A value does not tell a wheel for each place."""


class Crossed(DrawError):
    """Wheels are not a drawing: the number of their lands."""


class BadLook(DrawError):
    """A value is not a look."""


class NotOff(DrawError):
    """A value is not a thing off the ring."""


class NoDrawing(DrawError):
    """A net has no drawing."""


class BadPlaces(DrawError):
    """A value is not such a tuple of places as is asked for."""


class BadTies(DrawError):
    """A value is not such a tuple of ties as is asked for."""


class BadNumber(DrawError):
    """A value is not the number of a drawing."""


class BadTurning(DrawError):
    """A value is not a turning of the drawing."""


class OtherNet(DrawError):
    """A drawing is one of another net."""


class BadLooks(DrawError):
    """A value is not a tuple of looks."""


class TooMany(DrawError):
    """A bundle has too many ties: the most that there can be."""


class Against(DrawError):
    """No drawing has the looks."""


class BadOffers(DrawError):
    """A value is not a tuple of offers."""


class BadWishes(DrawError):
    """A value is not a tuple of wishes."""


class BadNames(DrawError):
    """A value is not such a tuple of names as is asked for."""


class NotThere(DrawError):
    """A value is not such a place of the land as is asked for."""


class Tied(DrawError):
    """Two places are tied already."""


class NothingToUndo(DrawError):
    """No deed stands that could be taken back."""


class NothingToRedo(DrawError):
    """No deed was taken back that could be done again."""


class NoTrial(DrawError):
    """There is no block of a trial around."""


class BadJournal(DrawError):
    """A value is not a journal: the number of its first line that cannot stand there."""


class BadLine(DrawError):
    """A value is not a line that a desk understands."""
