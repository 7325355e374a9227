"""How many drawings a net has, and which drawing has which number.

Each part of a net is drawn in one of so many ways, whatever the others are: so the numbers of these ways are the digits
of the number of the drawing, the first part being the lowest one.
"""

from alldrawn.basics import is_number
from alldrawn.errors import BadNumber
from alldrawn.flat import check_drawn, near_of, wheels_in
from alldrawn.parts import parts
from alldrawn.shapes import drawing_by_parts, nth_wheels, number_within, ways_of


def many(net):
    """How many drawings a net has, 0 if none."""
    if not wheels_in(near_of(net)):
        return 0
    number = 1
    for part in parts(net):
        number = number * ways_of(part)
    return number


def nth(net, number):
    """The Drawing with this number: NoDrawing, BadNumber."""
    check_drawn(net)
    if not is_number(number, many(net)):
        raise BadNumber(number)
    chosen = []
    rest = number
    for part in parts(net):
        rest, digit = divmod(rest, ways_of(part))
        chosen.append(nth_wheels(part, digit))
    return drawing_by_parts(net, chosen)


def number_of(drawing):
    """The number of a drawing among those of its net."""
    whole = parts(drawing.net)
    number = 0
    step = 1
    for at, part in enumerate(whole):
        number = number + step * number_within(drawing, whole, at)
        step = step * ways_of(part)
    return number
