"""Section 6: drawings; guarantees (b) and (c), as far as they speak of them."""

import itertools
import unittest

from alldrawn.drawings import Drawing
from alldrawn.errors import BadLook, BadRing, BadTie, BadWheels, Crossed, NoPlace, NotOff
from alldrawn.nets import Net
from tests.helper import (BALL, Case, FIVE, FLAT, FOUR, KITE, LONG, SMALL, SQUARE, TRIANGLE, TWIG, drawings_of,
                          lands_of, nested, net_of, rings_of, rings_once, side_of, text_of, things_off, wheels_of,
                          wrong_values)

AROUND = ("a", "b", "c", "d")
WHEELS = (("b", "c", "d"), ("a", "c"), ("d", "a", "b"), ("a", "c"))
DRAWINGS = [drawing for net in SMALL for drawing in drawings_of(net)]
BALLED = Drawing(BALL, (tuple("btdu"), tuple("ctau"), tuple("dtbu"), tuple("atcu"), tuple("abcd"), tuple("adcb")))
SOME = DRAWINGS[:8] + DRAWINGS[-4:] + [BALLED]


def turned_on(cycle):
    """A cycle told from each of its members on."""
    return [cycle[at:] + cycle[:at] for at in range(len(cycle))]


class Examples(Case):
    def test_flat(self):
        flat = Drawing(KITE, (("b", "c", "d"), ("a", "c"), ("d", "a", "b"), ("a", "c")))
        self.same(flat.lands, (("a", "b", "c", "d"), ("a", "c", "b"), ("a", "d", "c")))
        self.same(flat.land("c", "b"), ("a", "c", "b"))
        self.same(flat.in_turn("a", "c", "d", "b"), True)
        self.same((~flat).wheels[0], ("b", "d", "c"))
        self.same(flat == ~flat, False)

    def test_apart_and_in(self):
        self.same(FLAT.apart(("a", "b", "c"), "d", ("d", "c")), False)
        self.same(FLAT.apart(AROUND, ("c", "a"), ("a", "c")), False)
        self.same(("a", "d", "c") in FLAT, True)
        self.same(("d", "c", "a") in FLAT, False)


class Wheels(Case):
    def test_values_of_all_kinds(self):
        for value in wrong_values():
            with self.subTest(value=value):
                self.refused_itself(BadWheels, value, Drawing, KITE, value)

    def test_wheels_that_are_none(self):
        first = WHEELS[0]
        rest = WHEELS[1:]
        wrong = [WHEELS[:3], WHEELS + (("a", "c"),), WHEELS[::-1], list(WHEELS), (WHEELS,),
                 [list(wheel) for wheel in WHEELS], dict(zip(KITE.places, WHEELS)), "bcd",
                 tuple(map("".join, WHEELS)), (first,) * 4]
        for wheel in (list(first), "bcd", (), ("b",), ("b", "c"), ("b", "c", "c"), ("b", "c", "d", "b"),
                      ("b", "c", "a"), ("b", "c", "e"), ("b", "c", None), ("b", "c", True), ("b", "c", ["d"]),
                      ("b", "c", ("d",)), ("b", "c", {}), ("b", "c", KITE), (first,), None, 0,
                      {"b": 0, "c": 1, "d": 2}, KITE, FLAT, nested("tuple", "b"), ("b", "c", "d", None),
                      ("b", "b", "c", "d")):
            wrong.append((wheel,) + rest)
        for value in wrong:
            with self.subTest(value=value):
                self.refused_itself(BadWheels, value, Drawing, KITE, value)

    def test_of_places_that_are_not_tied(self):
        wheels = (("b", "c", "d"), ("a", "c"), ("d", "a", "b"), ("a", "b"))
        self.refused_itself(BadWheels, wheels, Drawing, KITE, wheels)

    def test_in_the_sequence_of_the_places(self):
        net = net_of("d c b a", "ab bc cd da ac")
        self.refused_itself(BadWheels, WHEELS, Drawing, net, WHEELS)
        self.same(Drawing(net, WHEELS[::-1]).wheels, (("c", "a"), ("d", "a", "b"), ("c", "a"), ("d", "b", "c")))

    def test_crossed(self):
        self.refused(Crossed, 1, Drawing, KITE, (("b", "c", "d"), ("a", "c"), ("b", "a", "d"), ("a", "c")))
        self.refused(Crossed, 2, Drawing, FOUR, (tuple("bcd"), tuple("acd"), tuple("abd"), tuple("abc")))

    def test_all_wheels(self):
        for net, many in ((TRIANGLE, 1), (SQUARE, 1), (KITE, 2), (FOUR, 2), (TWIG, 4), (FIVE, 0)):
            drawn = 0
            for wheels in wheels_of(net):
                lands = lands_of(net, wheels)
                if len(lands) == len(net.ties) - len(net) + 2:
                    self.assertEqual(Drawing(net, wheels).wheels, wheels)
                    drawn += 1
                else:
                    self.refused(Crossed, len(lands), Drawing, net, wheels)
            self.same(drawn, many)

    def test_told_from_the_first_neighbour_on(self):
        for drawing in SOME:
            for wheels in itertools.islice(itertools.product(*map(turned_on, drawing.wheels)), 60):
                told = Drawing(drawing.net, wheels)
                self.same(told.wheels, drawing.wheels)
                self.same(told.lands, drawing.lands)
                self.assertIs(told == drawing, True)

    def test_wheels_are_told_in_sequence(self):
        net = net_of("d c b a", "ab bc cd da ac")
        drawing = Drawing(net, (("a", "c"), ("b", "d", "a"), ("a", "c"), ("b", "c", "d")))
        self.same(drawing.wheels, (("c", "a"), ("d", "a", "b"), ("c", "a"), ("d", "b", "c")))

    def test_arguments_stay(self):
        wheels = [["b", "c", "d"], ("a", "c"), ("d", "a", "b"), ("a", "c")]
        self.refused_itself(BadWheels, wheels, Drawing, KITE, wheels)
        self.same(wheels, [["b", "c", "d"], ("a", "c"), ("d", "a", "b"), ("a", "c")])


class Lands(Case):
    def test_all_lands(self):
        for drawing in DRAWINGS + [BALLED]:
            due = []
            for land in lands_of(drawing.net, drawing.wheels):
                places = tuple(way[0] for way in land)
                first = min(places, key=drawing.net.places.index)
                at = places.index(first)
                due.append(places[at:] + places[:at])
                for way in land:
                    self.same(drawing.land(*way), due[-1])
            self.same(drawing.lands, tuple(sorted(due)))
            self.same(len(due), len(drawing.net.ties) - len(drawing.net) + 2)

    def test_of_a_ring(self):
        drawing = Drawing(LONG, tuple((near[1], near[0]) for near in (LONG[place] for place in LONG.places)))
        there, back = LONG.places, ("a",) + LONG.places[:0:-1]
        self.same(drawing.lands, (there, back))
        self.same(drawing.land("a", "b"), there)
        self.same(drawing.land("b", "a"), back)

    def test_from_the_first_place_in_sequence_but_ascending_as_python_sorts(self):
        net = net_of("d c b a", "ab bc cd da ac")
        self.same(Drawing(net, WHEELS[::-1]).lands, (("c", "b", "a"), ("d", "a", "b", "c"), ("d", "c", "a")))

    def test_in(self):
        for drawing in SOME:
            for land in drawing.lands:
                self.assertIs(land in drawing, True)
                self.assertIs(land not in drawing, False)
                for told in turned_on(land)[1:] + turned_on(land[::-1]) + [list(land), "".join(land), (land,), [land]]:
                    self.assertIs(told in drawing, told in list(drawing.lands))
                self.assertIs(land[::-1] in drawing, False)
        for value in wrong_values() + [FLAT.lands, FLAT.wheels, ("a", "b", "c", "d", "a"), ("a", "b", "c")]:
            with self.subTest(value=value):
                self.assertIs(value in FLAT, False)

    def test_land_of_no_place(self):
        for value in wrong_values():
            with self.subTest(value=value):
                self.refused_itself(NoPlace, value, FLAT.land, value, "a")
                self.refused_itself(NoPlace, value, FLAT.land, "a", value)
                self.refused_itself(NoPlace, value, FLAT.land, value, "other")
                self.refused_itself(NoPlace, value, FLAT.land, value, value)

    def test_land_of_no_tie(self):
        self.refused(BadTie, ("b", "d"), FLAT.land, "b", "d")
        self.refused(BadTie, ("d", "b"), FLAT.land, "d", "b")
        self.refused(BadTie, ("a", "a"), FLAT.land, "a", "a")


class InTurn(Case):
    def test_all_looks(self):
        for drawing in DRAWINGS[:6] + [BALLED]:
            for place, wheel in zip(drawing.net.places, drawing.wheels):
                for a, b, c in itertools.permutations(wheel, 3):
                    from_a = [told for told in turned_on(wheel) if told[0] == a][0]
                    self.assertIs(drawing.in_turn(place, a, b, c), from_a.index(b) < from_a.index(c))
                    self.assertIs(drawing.in_turn(place, a, c, b), not drawing.in_turn(place, a, b, c))
                    self.assertIs(drawing.in_turn(place, b, c, a), drawing.in_turn(place, a, b, c))

    def test_no_looks(self):
        for value in wrong_values():
            with self.subTest(value=value):
                self.refused(BadLook, (value, "b", "c", "d"), FLAT.in_turn, value, "b", "c", "d")
                self.refused(BadLook, ("a", value, "c", "d"), FLAT.in_turn, "a", value, "c", "d")
                self.refused(BadLook, ("a", "b", value, "d"), FLAT.in_turn, "a", "b", value, "d")
                self.refused(BadLook, ("a", "b", "c", value), FLAT.in_turn, "a", "b", "c", value)
                self.refused(BadLook, (value,) * 4, FLAT.in_turn, value, value, value, value)
        for look in (("a", "b", "b", "c"), ("a", "b", "c", "b"), ("a", "b", "c", "c"), ("a", "b", "b", "b"),
                     ("a", "a", "b", "c"), ("b", "a", "c", "d"), ("b", "a", "c", "a"), ("e", "a", "b", "c"),
                     ("c", "a", "b", "c"), ("a", "b", "d", "e")):
            with self.subTest(look=look):
                self.refused(BadLook, look, FLAT.in_turn, *look)

    def test_value_holds_what_was_passed(self):
        a = ["b"]
        with self.assertRaises(BadLook) as caught:
            FLAT.in_turn("a", a, "c", "d")
        self.assertIs(caught.exception.value[1], a)


class Apart(Case):
    def test_all_things(self):
        for drawing in SOME:
            for ring in rings_once(drawing.net):
                side = {thing: side_of(drawing, ring, thing) for thing in things_off(drawing.net, ring)}
                for one, other in itertools.product(side, repeat=2):
                    self.assertIs(drawing.apart(ring, one, other), side[one] != side[other])

    def test_ring_told_otherwise(self):
        for drawing in SOME[:6]:
            for ring in rings_of(drawing.net):
                told = [once for once in rings_once(drawing.net) if set(once) == set(ring)]
                for one, other in itertools.combinations(things_off(drawing.net, ring), 2):
                    if len(told) == 1:
                        self.assertIs(drawing.apart(ring, one, other), drawing.apart(told[0], one, other))

    def test_ball(self):
        self.same(BALLED.apart(AROUND, "t", "u"), True)
        self.same(BALLED.apart(AROUND, "t", ("a", "u")), True)
        self.same(BALLED.apart(AROUND, ("t", "b"), ("a", "t")), False)
        self.same(BALLED.apart(("a", "b", "t"), "c", "u"), False)

    def test_ring_is_refused_first(self):
        for value in wrong_values() + [list(AROUND), "abcd", ("a", "b"), ("a", "b", "d")]:
            with self.subTest(value=value):
                self.refused_itself(BadRing, value, FLAT.apart, value, ("a", "c"), ("a", "c"))
                self.refused_itself(BadRing, value, FLAT.apart, value, "a", None)

    def test_things_that_are_none(self):
        good = ("a", "c")
        values = [["a", "c"], ("a", "c", "a"), ("b", "d"), ("c",), "ac", {"a": "c"}, (good,), [good]]
        for value in wrong_values() + values:
            with self.subTest(value=value):
                self.refused_itself(NotOff, value, FLAT.apart, AROUND, value, good)
                self.refused_itself(NotOff, value, FLAT.apart, AROUND, good, value)
                self.refused_itself(NotOff, value, FLAT.apart, AROUND, value, "a")

    def test_things_on_the_ring(self):
        for on in ("a", "b", "c", ("a", "b"), ("b", "a"), ("c", "b"), ("c", "a"), ("a", "c")):
            with self.subTest(on=on):
                self.refused_itself(NotOff, on, FLAT.apart, ("a", "b", "c"), on, "d")
                self.refused_itself(NotOff, on, FLAT.apart, ("a", "b", "c"), "d", on)
                self.refused_itself(NotOff, on, FLAT.apart, ("a", "b", "c"), on, None)
        for ring in (("a", "b", "c"), ("c", "a", "b"), ("b", "a", "c")):
            for off in ("d", ("a", "d"), ("d", "c")):
                self.assertIs(FLAT.apart(ring, off, off), False)


class TurnedAbout(Case):
    """Also guarantee (b)."""

    def test_wheels_the_other_way_round(self):
        for drawing in DRAWINGS + [BALLED]:
            about = ~drawing
            self.assertIs(type(about), Drawing)
            self.assertEqual(about.net, drawing.net)
            self.same(about.wheels, tuple(wheel[:1] + wheel[:0:-1] for wheel in drawing.wheels))
            self.assertEqual(~about, drawing)
            self.assertIs(about == drawing, about.wheels == drawing.wheels)

    def test_drawing_stays(self):
        wheels, lands = FLAT.wheels, FLAT.lands
        ~FLAT
        self.same((FLAT.wheels, FLAT.lands), (wheels, lands))

    def test_lands_the_other_way_round(self):
        for drawing in DRAWINGS + [BALLED]:
            due = sorted(land[:1] + land[:0:-1] for land in drawing.lands)
            self.same((~drawing).lands, tuple(due))
            for one, other in drawing.net.ties:
                land = drawing.land(one, other)
                self.same((~drawing).land(other, one), land[:1] + land[:0:-1])

    def test_sides_stay_and_looks_are_contrary(self):
        for drawing in SOME:
            about = ~drawing
            for ring in rings_once(drawing.net):
                for one, other in itertools.combinations(things_off(drawing.net, ring), 2):
                    self.assertIs(about.apart(ring, one, other), drawing.apart(ring, one, other))
            for place in drawing.net.places:
                for a, b, c in itertools.permutations(drawing.net[place], 3):
                    self.assertIs(about.in_turn(place, a, b, c), not drawing.in_turn(place, a, b, c))


class Equal(Case):
    def test_equal(self):
        for net in SMALL:
            drawings = drawings_of(net)
            for one, other in itertools.product(drawings, repeat=2):
                self.assertIs(one == other, one.wheels == other.wheels)
                self.assertIs(one != other, one.wheels != other.wheels)

    def test_net_with_another_text(self):
        net = Net("places a b c d\ntie c a\ntie d c\ntie a d\ntie c b\ntie b a")
        self.assertIs(Drawing(net, WHEELS) == FLAT, True)
        self.assertIs(Drawing(net, WHEELS).net.text == FLAT.net.text, False)

    def test_net_with_another_sequence(self):
        net = net_of("b a c d", "ab bc cd da ac")
        other = Drawing(net, (WHEELS[1], WHEELS[0], WHEELS[2], WHEELS[3]))
        self.assertIs(other == FLAT, False)

    def test_net_with_another_sequence_and_the_same_wheels(self):
        wheels = (("p", "x", "y"), ("p", "y", "x"), ("h", "k"), ("h", "k"), ("h", "k"))
        one = Drawing(net_of("h k p x y", "hp hx hy kp kx ky"), wheels)
        other = Drawing(net_of("h k p y x", "hp hx hy kp kx ky"), wheels)
        self.same(one.wheels, other.wheels)
        self.assertIs(one == other, False)

    def test_equal_to_nothing_else(self):
        for value in wrong_values()[:-2] + [KITE, FLAT.wheels, FLAT.lands, (KITE, FLAT.wheels), [FLAT], (FLAT,)]:
            if not isinstance(value, Drawing):
                with self.subTest(value=value):
                    self.assertIs(FLAT == value, False)
                    self.assertIs(value == FLAT, False)
                    self.assertIs(FLAT != value, True)


class Names(Case):
    """Guarantee (c), as far as it speaks of drawings."""

    def test_other_names(self):
        names = dict(zip("abcdtu", ("zz", "y", "xylophon", "q", "b", "a")))
        net = Net(text_of([names[place] for place in TWIG.places],
                          [(names[one], names[other]) for one, other in TWIG.ties]))
        for drawing in drawings_of(TWIG):
            other = Drawing(net, tuple(tuple(names[near] for near in wheel) for wheel in drawing.wheels))
            self.same(other.lands, tuple(sorted(tuple(names[place] for place in land) for land in drawing.lands)))
            for ring in rings_once(TWIG):
                told = tuple(names[place] for place in ring)
                for one, two in itertools.combinations(things_off(TWIG, ring), 2):
                    found = other.apart(told, renamed(names, one), renamed(names, two))
                    self.assertIs(found, drawing.apart(ring, one, two))

    def test_another_sequence(self):
        for places in itertools.permutations("abcd"):
            net = Net(text_of(places, KITE.ties))
            wheel_of = dict(zip(KITE.places, FLAT.wheels))
            other = Drawing(net, tuple(wheel_of[place] for place in places))
            self.assertEqual(len(other.lands), len(FLAT.lands))
            for one, two in KITE.ties + tuple(tie[::-1] for tie in KITE.ties):
                self.assertIn(other.land(one, two), turned_on(FLAT.land(one, two)))
            for ring in rings_once(KITE):
                for one, two in itertools.combinations(things_off(KITE, ring), 2):
                    self.assertIs(other.apart(ring, one, two), FLAT.apart(ring, one, two))


def renamed(names, thing):
    return tuple(names[place] for place in thing) if isinstance(thing, tuple) else names[thing]


if __name__ == "__main__":
    unittest.main()
