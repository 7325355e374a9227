"""The interface: names, arguments, and where each thing is defined."""

import inspect
import unittest

from alldrawn import drawings, flat, nets, parts, rings, sides, wishes
from tests.helper import Case, FLAT, KITE, SQUARE, TWIG

FUNCTIONS = (
    (rings, "hanging", ["net", "ring"]),
    (rings, "barring", ["net", "ring"]),
    (flat, "draw", ["net"]),
    (flat, "shows_draw", ["net", "value"]),
    (sides, "sides", ["net", "ring", "one", "other"]),
    (sides, "shows_sides", ["net", "ring", "one", "other", "value"]),
    (sides, "as_land", ["net", "ring"]),
    (sides, "shows_as_land", ["net", "ring", "value"]),
    (wishes, "meet", ["net", "some"]),
    (wishes, "shows_meet", ["net", "some", "value"]),
    (wishes, "beside", ["net", "place", "some"]),
    (wishes, "shows_beside", ["net", "place", "some", "value"]),
    (wishes, "with_ties", ["net", "ties"]),
    (wishes, "shows_with_ties", ["net", "ties", "value"]),
    (parts, "parts", ["net"]),
    (parts, "shows_parts", ["net", "value"]),
)
METHODS = (
    (nets, "Net", "__init__", ["self", "text"]),
    (nets, "Net", "tied", ["self", "one", "other"]),
    (nets, "Net", "without", ["self", "place"]),
    (drawings, "Drawing", "__init__", ["self", "net", "wheels"]),
    (drawings, "Drawing", "land", ["self", "one", "other"]),
    (drawings, "Drawing", "in_turn", ["self", "place", "a", "b", "c"]),
    (drawings, "Drawing", "apart", ["self", "ring", "one", "other"]),
)
OPERATORS = (
    (nets, "Net", ["__eq__", "__len__", "__contains__", "__getitem__", "__add__", "__sub__"]),
    (drawings, "Drawing", ["__eq__", "__contains__", "__invert__"]),
)
PLAIN = (inspect.Parameter.POSITIONAL_OR_KEYWORD,)


class Interface(Case):
    def check_parameters(self, function, names):
        parameters = inspect.signature(function).parameters.values()
        self.assertEqual([parameter.name for parameter in parameters], names)
        for parameter in parameters:
            self.assertIn(parameter.kind, PLAIN)
            self.assertIs(parameter.default, inspect.Parameter.empty)

    def test_functions(self):
        for module, name, names in FUNCTIONS:
            with self.subTest(name):
                function = vars(module)[name]
                self.assertTrue(inspect.isfunction(function))
                self.assertEqual(function.__module__, module.__name__)
                self.check_parameters(function, names)

    def test_methods(self):
        for module, kind, name, names in METHODS:
            with self.subTest(kind, method=name):
                self.assertEqual(vars(module)[kind].__module__, module.__name__)
                self.check_parameters(vars(vars(module)[kind])[name], names)

    def test_operators(self):
        for module, kind, names in OPERATORS:
            for name in names:
                with self.subTest(kind, operator=name):
                    self.assertIn(name, vars(vars(module)[kind]))

    def test_attributes_are_set_from_the_beginning(self):
        self.assertLessEqual({"text", "places", "ties"}, set(vars(KITE)))
        self.assertLessEqual({"net", "wheels", "lands"}, set(vars(FLAT)))

    def test_kinds_of_attributes(self):
        self.assertIs(type(KITE.text), str)
        self.same(KITE.places, ("a", "b", "c", "d"))
        self.same(KITE.ties, (("a", "b"), ("a", "c"), ("a", "d"), ("b", "c"), ("c", "d")))
        self.assertIs(FLAT.net, KITE)
        self.same(FLAT.wheels, (("b", "c", "d"), ("a", "c"), ("a", "b", "d"), ("a", "c")))
        self.same(FLAT.lands, (("a", "b", "c", "d"), ("a", "c", "b"), ("a", "d", "c")))

    def test_arguments_by_name(self):
        ring = ("a", "b", "c", "d")
        self.assertEqual(nets.Net(text=KITE.text), KITE)
        self.assertEqual(KITE.tied(one="a", other="c"), True)
        self.assertEqual(KITE.tied(other="d", one="b"), False)
        self.assertEqual(KITE.without(place="d").places, ("a", "b", "c"))
        self.assertEqual(rings.hanging(net=KITE, ring=ring), rings.hanging(KITE, ring))
        self.assertEqual(rings.barring(ring=ring, net=KITE), ())
        self.assertEqual(drawings.Drawing(wheels=FLAT.wheels, net=KITE), FLAT)
        self.assertEqual(FLAT.land(other="b", one="c"), ("a", "c", "b"))
        self.assertEqual(FLAT.in_turn(c="b", b="d", a="c", place="a"), True)
        self.assertEqual(FLAT.apart(other=("d", "c"), one="d", ring=("a", "b", "c")), False)

    def test_arguments_of_questions_by_name(self):
        ring = ("a", "b", "c", "d")
        value = flat.draw(net=KITE)
        self.assertEqual(value, flat.draw(KITE))
        self.assertIs(flat.shows_draw(value=value, net=KITE), True)
        value = sides.sides(other="u", one="t", ring=ring, net=TWIG)
        self.assertEqual(value, sides.sides(TWIG, ring, "t", "u"))
        self.assertIs(sides.shows_sides(value=value, other="u", one="t", ring=ring, net=TWIG), True)
        value = sides.as_land(ring=ring, net=TWIG)
        self.assertEqual(value, sides.as_land(TWIG, ring))
        self.assertIs(sides.shows_as_land(value=value, ring=ring, net=TWIG), True)
        value = wishes.meet(some=("t", "u"), net=TWIG)
        self.assertEqual(value, wishes.meet(TWIG, ("t", "u")))
        self.assertIs(wishes.shows_meet(value=value, some=("t", "u"), net=TWIG), True)
        value = wishes.beside(some=("b", "t"), place="a", net=TWIG)
        self.assertEqual(value, wishes.beside(TWIG, "a", ("b", "t")))
        self.assertIs(wishes.shows_beside(value=value, some=("b", "t"), place="a", net=TWIG), True)
        value = wishes.with_ties(ties=(("a", "c"),), net=SQUARE)
        self.assertEqual(value, wishes.with_ties(SQUARE, (("a", "c"),)))
        self.assertIs(wishes.shows_with_ties(value=value, ties=(("a", "c"),), net=SQUARE), True)
        value = parts.parts(net=TWIG)
        self.assertEqual(value, parts.parts(TWIG))
        self.assertIs(parts.shows_parts(value=value, net=TWIG), True)


if __name__ == "__main__":
    unittest.main()
