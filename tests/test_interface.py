"""The interface: names, arguments, and where each thing is defined."""

import inspect
import os
import unittest

from alldrawn import (choosing, desk, drawings, errors, flat, further, journals, looks, nets, numbers, parts, rings,
                      sheets, sides, turning, wishes)
from tests.helper import Case, FLAT, KITE, SQUARE, TWIG

FUNCTIONS = (
    (rings, "hanging", ["net", "ring"]),
    (rings, "barring", ["net", "ring"]),
    (flat, "draw", ["net"]),
    (flat, "shows_draw", ["net", "value"]),
    (sides, "sides", ["net", "ring", "one", "other"]),
    (sides, "shows_sides", ["net", "ring", "one", "other", "value"]),
    (sides, "as_land", ["net", "ring"]),
    (sides, "shows_as_land", ["net", "ring", "value"]),
    (wishes, "meet", ["net", "some"]),
    (wishes, "shows_meet", ["net", "some", "value"]),
    (wishes, "beside", ["net", "place", "some"]),
    (wishes, "shows_beside", ["net", "place", "some", "value"]),
    (wishes, "with_ties", ["net", "ties"]),
    (wishes, "shows_with_ties", ["net", "ties", "value"]),
    (parts, "parts", ["net"]),
    (parts, "shows_parts", ["net", "value"]),
    (numbers, "many", ["net"]),
    (numbers, "nth", ["net", "number"]),
    (numbers, "number_of", ["drawing"]),
    (turning, "turned", ["drawing", "value"]),
    (turning, "turns", ["one", "other"]),
    (turning, "shows_turns", ["one", "other", "value"]),
    (looks, "left", ["net", "looks"]),
    (looks, "sure", ["net", "looks", "look"]),
    (looks, "shows_sure", ["net", "looks", "look", "value"]),
    (looks, "clash", ["net", "looks"]),
    (looks, "shows_clash", ["net", "looks", "value"]),
    (looks, "needless", ["net", "looks"]),
    (looks, "asks", ["net", "looks"]),
    (looks, "shows_asks", ["net", "looks", "value"]),
    (further, "further", ["net", "one", "other"]),
    (further, "shows_further", ["net", "one", "other", "value"]),
    (choosing, "cheapest", ["net", "offers", "wishes"]),
    (journals, "read_journal", ["names", "lines"]),
)
METHODS = (
    (nets, "Net", "__init__", ["self", "text"]),
    (nets, "Net", "tied", ["self", "one", "other"]),
    (nets, "Net", "without", ["self", "place"]),
    (drawings, "Drawing", "__init__", ["self", "net", "wheels"]),
    (drawings, "Drawing", "land", ["self", "one", "other"]),
    (drawings, "Drawing", "in_turn", ["self", "place", "a", "b", "c"]),
    (drawings, "Drawing", "apart", ["self", "ring", "one", "other"]),
    (sheets, "Sheet", "__init__", ["self", "names"]),
    (sheets, "Sheet", "turn", ["self", "a", "b", "some"]),
    (sheets, "Sheet", "take", ["self", "one", "other"]),
    (sheets, "Sheet", "drop", ["self", "place"]),
    (sheets, "Sheet", "undo", ["self"]),
    (sheets, "Sheet", "redo", ["self"]),
    (sheets, "Sheet", "trial", ["self"]),
    (sheets, "Sheet", "keep", ["self"]),
    (sheets, "Sheet", "copy", ["self"]),
    (desk, "Desk", "__init__", ["self", "text"]),
    (desk, "Desk", "say", ["self", "line"]),
)
OPERATORS = (
    (nets, "Net", ["__eq__", "__len__", "__contains__", "__getitem__", "__add__", "__sub__"]),
    (drawings, "Drawing", ["__eq__", "__contains__", "__invert__"]),
    (sheets, "Sheet", ["__eq__", "__len__", "__contains__"]),
)
ERRORS = """BadNet NotTied NoPlace BadTie Full Few BadRing BadWheels Crossed BadLook NotOff NoDrawing BadPlaces BadTies
    BadNumber BadTurning OtherNet BadLooks TooMany Against BadOffers BadWishes BadNames NotThere Tied NothingToUndo
    NothingToRedo NoTrial BadJournal BadLine""".split()
RING = ("a", "b", "c", "d")
PLAIN = (inspect.Parameter.POSITIONAL_OR_KEYWORD,)


class Interface(Case):
    def check_parameters(self, function, names):
        parameters = inspect.signature(function).parameters.values()
        self.assertEqual([parameter.name for parameter in parameters], names)
        for parameter in parameters:
            self.assertIn(parameter.kind, PLAIN)
            self.assertIs(parameter.default, inspect.Parameter.empty)

    def test_functions(self):
        for module, name, names in FUNCTIONS:
            with self.subTest(name):
                function = vars(module)[name]
                self.assertTrue(inspect.isfunction(function))
                self.assertEqual(function.__module__, module.__name__)
                self.check_parameters(function, names)

    def test_methods(self):
        for module, kind, name, names in METHODS:
            with self.subTest(kind, method=name):
                self.assertEqual(vars(module)[kind].__module__, module.__name__)
                self.check_parameters(vars(vars(module)[kind])[name], names)

    def test_operators(self):
        for module, kind, names in OPERATORS:
            for name in names:
                with self.subTest(kind, operator=name):
                    self.assertIn(name, vars(vars(module)[kind]))

    def test_attributes_are_set_from_the_beginning(self):
        self.assertLessEqual({"text", "places", "ties"}, set(vars(KITE)))
        self.assertLessEqual({"net", "wheels", "lands"}, set(vars(FLAT)))
        self.assertLessEqual({"drawing", "net", "done", "journal"}, set(vars(sheets.Sheet(RING))))
        self.assertLessEqual({"drawing", "net", "done", "journal"}, set(vars(sheets.Sheet(RING).copy())))
        self.assertLessEqual({"sheet"}, set(vars(desk.Desk("ring a b c"))))

    def test_errors(self):
        for name in ERRORS:
            error = vars(errors)[name]
            self.assertEqual((error.__module__, error.__bases__), ("alldrawn.errors", (errors.DrawError,)))
        defined = [name for name, value in vars(errors).items() if inspect.isclass(value)]
        self.assertEqual(sorted(defined), sorted(ERRORS + ["DrawError"]))
        self.assertEqual(errors.DrawError.__bases__, (ValueError,))

    def test_road_and_tried(self):
        road = list(inspect.signature(sheets.Sheet.road).parameters.values())
        self.assertEqual([parameter.name for parameter in road], ["self", "tie", "one", "other", "inner"])
        self.assertTrue(all(parameter.kind in PLAIN for parameter in road))
        self.same(road[-1].default, ())
        tried = list(inspect.signature(sheets.Sheet.tried).parameters.values())
        self.assertEqual([parameter.name for parameter in tried], ["self", "look", "keep"])
        self.assertIs(tried[-1].kind, inspect.Parameter.KEYWORD_ONLY)
        self.assertIs(tried[-1].default, False)
        for name in ("road", "tried"):
            self.assertIn(name, vars(sheets.Sheet))

    def test_all_that_is_listed(self):
        told = {module.__name__ for module, *_ in FUNCTIONS + METHODS} | {errors.__name__}
        folder = os.path.dirname(errors.__file__)
        modules = {"alldrawn." + name[:-3] for name in os.listdir(folder) if name.endswith(".py")}
        own = {"alldrawn.__init__", "alldrawn.basics", "alldrawn.roads", "alldrawn.shapes"}
        self.assertEqual(modules - own, told)

    def test_kinds_of_attributes(self):
        self.assertIs(type(KITE.text), str)
        self.same(KITE.places, ("a", "b", "c", "d"))
        self.same(KITE.ties, (("a", "b"), ("a", "c"), ("a", "d"), ("b", "c"), ("c", "d")))
        self.assertIs(FLAT.net, KITE)
        self.same(FLAT.wheels, (("b", "c", "d"), ("a", "c"), ("a", "b", "d"), ("a", "c")))
        self.same(FLAT.lands, (("a", "b", "c", "d"), ("a", "c", "b"), ("a", "d", "c")))

    def test_arguments_by_name(self):
        ring = ("a", "b", "c", "d")
        self.assertEqual(nets.Net(text=KITE.text), KITE)
        self.assertEqual(KITE.tied(one="a", other="c"), True)
        self.assertEqual(KITE.tied(other="d", one="b"), False)
        self.assertEqual(KITE.without(place="d").places, ("a", "b", "c"))
        self.assertEqual(rings.hanging(net=KITE, ring=ring), rings.hanging(KITE, ring))
        self.assertEqual(rings.barring(ring=ring, net=KITE), ())
        self.assertEqual(drawings.Drawing(wheels=FLAT.wheels, net=KITE), FLAT)
        self.assertEqual(FLAT.land(other="b", one="c"), ("a", "c", "b"))
        self.assertEqual(FLAT.in_turn(c="b", b="d", a="c", place="a"), True)
        self.assertEqual(FLAT.apart(other=("d", "c"), one="d", ring=("a", "b", "c")), False)

    def test_arguments_of_questions_by_name(self):
        ring = ("a", "b", "c", "d")
        value = flat.draw(net=KITE)
        self.assertEqual(value, flat.draw(KITE))
        self.assertIs(flat.shows_draw(value=value, net=KITE), True)
        value = sides.sides(other="u", one="t", ring=ring, net=TWIG)
        self.assertEqual(value, sides.sides(TWIG, ring, "t", "u"))
        self.assertIs(sides.shows_sides(value=value, other="u", one="t", ring=ring, net=TWIG), True)
        value = sides.as_land(ring=ring, net=TWIG)
        self.assertEqual(value, sides.as_land(TWIG, ring))
        self.assertIs(sides.shows_as_land(value=value, ring=ring, net=TWIG), True)
        value = wishes.meet(some=("t", "u"), net=TWIG)
        self.assertEqual(value, wishes.meet(TWIG, ("t", "u")))
        self.assertIs(wishes.shows_meet(value=value, some=("t", "u"), net=TWIG), True)
        value = wishes.beside(some=("b", "t"), place="a", net=TWIG)
        self.assertEqual(value, wishes.beside(TWIG, "a", ("b", "t")))
        self.assertIs(wishes.shows_beside(value=value, some=("b", "t"), place="a", net=TWIG), True)
        value = wishes.with_ties(ties=(("a", "c"),), net=SQUARE)
        self.assertEqual(value, wishes.with_ties(SQUARE, (("a", "c"),)))
        self.assertIs(wishes.shows_with_ties(value=value, ties=(("a", "c"),), net=SQUARE), True)
        value = parts.parts(net=TWIG)
        self.assertEqual(value, parts.parts(TWIG))
        self.assertIs(parts.shows_parts(value=value, net=TWIG), True)

    def test_arguments_of_numbers_and_turnings_by_name(self):
        self.same(numbers.many(net=TWIG), 4)
        drawing = numbers.nth(number=3, net=TWIG)
        self.assertEqual(drawing, numbers.nth(TWIG, 3))
        self.same(numbers.number_of(drawing=drawing), 3)
        self.assertEqual(turning.turned(value=("a", "c", ("t",)), drawing=drawing),
                         turning.turned(drawing, ("a", "c", ("t",))))
        other = numbers.nth(TWIG, 0)
        value = turning.turns(other=other, one=drawing)
        self.assertEqual(value, turning.turns(drawing, other))
        self.assertIs(turning.shows_turns(value=value, other=other, one=drawing), True)
        self.assertIs(turning.shows_turns(value=(), other=other, one=drawing), False)

    def test_arguments_of_looks_by_name(self):
        seen, look = (("a", "b", "d", "t"),), ("a", "b", "t", "u")
        self.same(looks.left(looks=seen, net=TWIG), 2)
        value = looks.sure(look=look, looks=seen, net=TWIG)
        self.assertEqual(value, looks.sure(TWIG, seen, look))
        self.assertIs(looks.shows_sure(value=value, look=look, looks=seen, net=TWIG), True)
        self.same(looks.clash(looks=seen, net=TWIG), ())
        self.assertIs(looks.shows_clash(value=(), looks=seen, net=TWIG), True)
        self.same(looks.needless(looks=seen, net=TWIG), ())
        value = looks.asks(looks=seen, net=TWIG)
        self.assertEqual(value, looks.asks(TWIG, seen))
        self.assertIs(looks.shows_asks(value=value, looks=seen, net=TWIG), True)

    def test_arguments_of_choices_by_name(self):
        value = further.further(other="b", one="t", net=TWIG)
        self.assertEqual(value, further.further(TWIG, "t", "b"))
        self.assertIs(further.shows_further(value=value, other="b", one="t", net=TWIG), True)
        offers = ((("b", "t"), 2),)
        self.assertEqual(choosing.cheapest(wishes=(("one",),), offers=offers, net=TWIG),
                         choosing.cheapest(TWIG, offers, (("one",),)))

    def test_arguments_of_sheets_by_name(self):
        sheet = sheets.Sheet(names=RING)
        self.assertIsNone(sheet.road(other="c", one="a", tie=("a", "b")))
        self.assertIsNone(sheet.road(inner=("e",), other="b", one="a", tie=("a", "b")))
        self.assertIsNone(sheet.turn(some=("d",), b="c", a="a"))
        self.assertIsNone(sheet.take(other="c", one="a"))
        self.assertIsNone(sheet.drop(place="e"))
        self.same(sheet.journal, ("road a b a c", "road a b a b e", "turn a c d", "take a c", "drop e"))
        self.assertTrue(journals.read_journal(lines=sheet.journal, names=RING) == sheet)
        self.same(sheet.tried(keep=False, look=len), 4)
        told = desk.Desk(text="ring a b c d")
        self.same(told.say(line="many"), "1")

    def test_parameters_by_name_only(self):
        with self.assertRaises(TypeError):
            sheets.Sheet(RING).tried(len, False)

    def test_methods_without_a_result(self):
        sheet = sheets.Sheet(RING)
        self.assertIsNone(sheet.road(("a", "b"), "a", "c"))
        self.assertIsNone(sheet.undo())
        self.assertIsNone(sheet.redo())
        with sheet.trial():
            self.assertIsNone(sheet.keep())

    def test_kinds_of_attributes_of_sheets(self):
        sheet = sheets.Sheet(RING)
        self.assertIs(type(sheet.drawing), drawings.Drawing)
        self.assertIs(type(sheet.net), nets.Net)
        self.same((sheet.done, sheet.journal), (0, ()))
        self.assertIs(type(desk.Desk("ring a b c").sheet), sheets.Sheet)
        self.assertIs(type(sheet.copy()), sheets.Sheet)


if __name__ == "__main__":
    unittest.main()
