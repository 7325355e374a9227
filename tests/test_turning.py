"""Section 11: turnings, and how they lead from drawing to drawing."""

import itertools
import random
import unittest

from alldrawn.drawings import Drawing
from alldrawn.errors import BadTurning, OtherNet
from alldrawn.nets import Net
from alldrawn.numbers import many, nth
from alldrawn.turning import shows_turns, turned, turns
from tests.helper import (BALL, Case, DEEP, FLAT, FOUR, HEAPS, KITE, LONG, ROADS, SPROUT, SQUARE, TENT, THIN,
                          TIED_ROADS, TRIANGLE, TWIG, all_drawings, bent, groups, grown, nested, text_of, up_to,
                          wrong_values)

ALL = (KITE, FOUR, TWIG, TENT, TRIANGLE, SQUARE, BALL)


def is_block(wheel, some):
    """Whether those of some members stand together in a wheel: told from one place on, they come first."""
    count = len(set(wheel) & set(some))
    starts = [wheel[at:] + wheel[:at] for at in range(len(wheel))]
    return any(set(start[:count]) == set(wheel) & set(some) for start in starts)


def right_turning(drawing, value):
    """Whether a value is a turning of a drawing, straight from section 11."""
    net = drawing.net
    if type(value) is not tuple or len(value) != 3 or type(value[2]) is not tuple:
        return False
    a, b, some = value
    if type(a) is not str or type(b) is not str or any(type(place) is not str for place in some):
        return False
    if a not in net.places or b not in net.places or net.places.index(a) >= net.places.index(b):
        return False
    off = [place for place in net.places if place not in (a, b)]
    if not some or not set(some) <= set(off) or some != tuple(place for place in off if place in some):
        return False
    inside = [tie for tie in net.ties if a not in tie and b not in tie]
    if any(piece & set(some) and not piece <= set(some) for piece in groups(off, inside)):
        return False
    return all(is_block(drawing.wheels[net.places.index(end)], some) for end in (a, b))


def slow_turned(drawing, value):
    """The drawing behind a turning: block by block."""
    a, b, some = value
    wheels = []
    for place, wheel in zip(drawing.net.places, drawing.wheels):
        if place in (a, b):
            while not (set(wheel) <= set(some) or wheel[0] in some and wheel[-1] not in some):
                wheel = wheel[1:] + wheel[:1]
            count = sum(near in some for near in wheel)
            wheel = wheel[:count][::-1] + wheel[count:]
        wheels.append(wheel[::-1] if place in some else wheel)
    return Drawing(drawing.net, tuple(wheels))


def right_turns(one, other, value):
    """Whether a value is a tuple of turnings that lead from one drawing to the other."""
    if type(value) is not tuple:
        return False
    now = one
    for turning in value:
        if not right_turning(now, turning):
            return False
        now = slow_turned(now, turning)
    return now == other


def all_candidates(net):
    """All pairs of places, each with each set of the others."""
    for a, b in itertools.combinations(net.places, 2):
        off = [place for place in net.places if place not in (a, b)]
        for count in range(len(off) + 1):
            for some in itertools.combinations(off, count):
                yield a, b, some


def all_turnings(drawing):
    return [value for value in all_candidates(drawing.net) if right_turning(drawing, value)]


class Examples(Case):
    def test_as_in_the_document(self):
        over = turned(FLAT, ("a", "c", ("b",)))
        self.same([over == FLAT, turned(FLAT, ("a", "c", ("b", "d"))) == ~FLAT, turns(FLAT, FLAT),
                   shows_turns(FLAT, ~FLAT, (("a", "c", ("b", "d")),)), shows_turns(FLAT, ~FLAT, ())],
                  [True, True, (), True, False])


class Turned(Case):
    def check(self, drawing, value):
        if not right_turning(drawing, value):
            self.refused_itself(BadTurning, value, turned, drawing, value)
            return False
        found = turned(drawing, value)
        self.assertIs(type(found), Drawing)
        self.assertEqual(found, slow_turned(drawing, value))
        self.assertEqual(found.net, drawing.net)
        # What is turned over twice is as before.
        self.assertEqual(turned(found, value), drawing)
        return True

    def test_all_nets_of_up_to_six_places(self):
        right = wrong = 0
        for at, net in enumerate(up_to(6)):
            drawings = all_drawings(net)
            for drawing in drawings[at % 3::9] or drawings[:1]:
                for value in all_candidates(net):
                    if self.check(drawing, value):
                        right += 1
                    else:
                        wrong += 1
        self.assertLess(500, right)
        self.assertLess(5000, wrong)

    def test_the_whole_is_turned_about(self):
        for net in ALL + (LONG, SPROUT, HEAPS, DEEP, ROADS):
            drawing = nth(net, many(net) // 3)
            for a, b in list(itertools.combinations(net.places, 2))[::5]:
                some = tuple(place for place in net.places if place not in (a, b))
                self.assertEqual(turned(drawing, (a, b, some)), ~drawing)

    def test_a_tie_stands_between(self):
        # Around a: b, then c, then the tie to d, then e.
        net = Net("places a d b c e\ntie a b\ntie b d\ntie a c\ntie c d\ntie a d\ntie a e\ntie e d")
        drawing = Drawing(net, (("b", "c", "d", "e"), ("b", "e", "a", "c"), ("a", "d"), ("a", "d"), ("a", "d")))
        self.assertTrue(self.check(drawing, ("a", "d", ("b", "c"))))
        self.assertTrue(self.check(drawing, ("a", "d", ("b", "e"))))
        self.assertFalse(self.check(drawing, ("a", "d", ("c", "e"))))
        self.assertTrue(self.check(drawing, ("a", "d", ("b", "c", "e"))))
        # The others stay at their places.
        self.same(turned(drawing, ("a", "d", ("b", "c"))).wheels[0], ("d", "e", "c", "b"))
        self.same(turned(drawing, ("a", "d", ("b", "c", "e"))).wheels[0], ("d", "c", "b", "e"))

    def test_pieces_as_a_whole(self):
        drawing = nth(TWIG, 0)
        self.refused(BadTurning, ("a", "c", ("b",)), turned, drawing, ("a", "c", ("b",)))
        self.refused(BadTurning, ("a", "c", ("b", "t")), turned, drawing, ("a", "c", ("b", "t")))
        self.assertTrue(self.check(drawing, ("a", "c", ("b", "d"))))
        self.assertTrue(self.check(drawing, ("a", "c", ("t",))))
        self.refused(BadTurning, ("c", "a", ("t",)), turned, drawing, ("c", "a", ("t",)))
        self.refused(BadTurning, ("a", "c", ("d", "b")), turned, drawing, ("a", "c", ("d", "b")))

    def test_wrong_values(self):
        good = ("a", "c", ("b",))
        wrong = [("a", "c"), good + ((),), ("a", "c", ()), ("a", "c", "b"), ("a", "c", ["b"]), list(good), (good,),
                 ("a", "a", ("b",)), ("c", "a", ("b",)), ("a", "c", ("a",)), ("a", "c", ("b", "b")), ("a", "c", ("q",)),
                 ("a", "c", ("b", "a")), ("a", "c", ("b", None)), ("a", "c", (("b",),)), ("a", "c", (True,)),
                 ("a", "q", ("b",)), (None, "c", ("b",)), (["a"], "c", ("b",)), ("a", {"c": 1}, ("b",)),
                 ("a", "c", (KITE,)), ("a", "c", FLAT), ("a", "c", {"b": "b"}), ("a", "c", ("d", "b")),
                 ("a", "b", ("c",)), ("b", "d", ("a",))]
        for value in wrong_values() + wrong + list(bent(good)):
            with self.subTest(value=value):
                self.assertIs(self.check(FLAT, value), value in (good, ("a", "c", ("b", "d")), ("a", "c", ("d",)))
                              and type(value) is tuple)
        for value in wrong_values():
            for told in (("a", "c", value), ("a", value, ("b",)), (value, "c", ("b",)), ("a", "c", (value,))):
                self.assertFalse(self.check(FLAT, told))

    def test_arguments_stay(self):
        before = (FLAT.net, FLAT.wheels, FLAT.lands)
        turned(FLAT, ("a", "c", ("b",)))
        turns(FLAT, ~FLAT)
        self.assertEqual((FLAT.net, FLAT.wheels, FLAT.lands), before)


class Turns(Case):
    def check(self, one, other):
        found = turns(one, other)
        self.assertIs(right_turns(one, other, found), True, found)
        self.assertIs(shows_turns(one, other, found), True)
        return found

    def test_all_nets_of_up_to_six_places(self):
        for at, net in enumerate(up_to(6)):
            drawings = all_drawings(net)
            for one, other in list(itertools.product(drawings, drawings))[::1 + len(drawings) // 8]:
                self.check(one, other)

    def test_equal(self):
        for net in ALL + (LONG, SPROUT, ROADS, DEEP):
            drawing = nth(net, many(net) // 2)
            self.same(turns(drawing, drawing), ())
            self.same(turns(drawing, nth(net, many(net) // 2)), ())

    def test_parts_within_parts(self):
        chance = random.Random(3)
        for net in (SPROUT, THIN, DEEP, HEAPS, ROADS, TIED_ROADS, DEEP + ("a", "b"), HEAPS + ("a", "b")):
            for _ in range(12):
                one, other = nth(net, chance.randrange(many(net))), nth(net, chance.randrange(many(net)))
                self.check(one, other)
                self.check(one, ~one)

    def test_in_another_sequence(self):
        # The first part, and the first one of the thin ties, are others then.
        chance = random.Random(5)
        for net in (HEAPS, DEEP, TWIG, TENT, grown(5, places=16, ties=30)[0], grown(8, places=14, ties=24)[0]):
            for _ in range(12):
                places = list(net.places)
                chance.shuffle(places)
                again = Net(text_of(places, net.ties))
                for _ in range(2):
                    self.check(nth(again, chance.randrange(many(again))), nth(again, chance.randrange(many(again))))

    def test_nets_that_grow(self):
        chance = random.Random(4)
        for seed in range(30):
            net = grown(seed, places=8 + seed % 9, ties=15 + seed)[0]
            one, other = nth(net, chance.randrange(many(net))), nth(net, chance.randrange(many(net)))
            self.check(one, other)
            self.check(other, one)

    def test_turnings_lead_to_all_drawings(self):
        for net in (KITE, TWIG, TENT, THIN, SPROUT):
            found = [nth(net, 0)]
            for drawing in found:
                for value in all_turnings(drawing) if len(net) < 8 else self.some_turnings(drawing):
                    behind = turned(drawing, value)
                    if behind not in found:
                        found.append(behind)
            self.assertEqual(len(found), many(net))

    def some_turnings(self, drawing):
        net = drawing.net
        for a, b in itertools.combinations(net.places, 2):
            off = [place for place in net.places if place not in (a, b)]
            pieces = groups(off, [tie for tie in net.ties if a not in tie and b not in tie])
            for piece in pieces if len(pieces) > 1 else ():
                value = (a, b, tuple(place for place in off if place in piece))
                if right_turning(drawing, value):
                    yield value
        yield net.places[0], net.places[1], net.places[2:]

    def test_other_nets(self):
        turned_names = Net("places b a c d\ntie a b\ntie b c\ntie c d\ntie d a\ntie a c")
        for other in (nth(FOUR, 0), nth(SQUARE, 0), nth(TWIG, 1), nth(turned_names, 0)):
            self.refused_itself(OtherNet, other, turns, FLAT, other)
            self.refused_itself(OtherNet, FLAT, turns, other, FLAT)
            for value in ((), None, (("a", "c", ("b",)),)):
                self.refused_itself(OtherNet, other, shows_turns, FLAT, other, value)

    def test_equal_nets_from_other_texts(self):
        net = Net(text_of(KITE.places, [tie[::-1] for tie in KITE.ties[::-1]]))
        for number in (0, 1):
            self.check(FLAT, nth(net, number))
            self.assertEqual(turns(FLAT, nth(net, number)), turns(FLAT, nth(KITE, number)))


class ShowsTurns(Case):
    def check(self, one, other, value):
        due = right_turns(one, other, value)
        self.assertIs(shows_turns(one, other, value), due, value)
        return due

    def test_bent(self):
        pairs = [(FLAT, ~FLAT)]
        for net in (TWIG, TENT, SPROUT, THIN):
            pairs += [(nth(net, 0), nth(net, many(net) - 1)), (nth(net, 1), ~nth(net, 1))]
        for one, other in pairs:
            value = turns(one, other)
            self.assertTrue(self.check(one, other, value))
            right = [self.check(one, other, worse) for worse in bent(value)]
            self.assertLess(len(value) * 20, right.count(False))

    def test_any_way(self):
        # All ways of up to two turnings.
        for net in (KITE, TWIG):
            drawings = all_drawings(net)
            one = drawings[0]
            values = [()] + [(turning,) for turning in all_turnings(one)]
            values += [(first, second) for first in all_turnings(one)
                       for second in all_turnings(turned(one, first))[::2]]
            for value in values:
                right = [self.check(one, other, value) for other in drawings]
                self.assertEqual(right.count(True), 1)

    def test_there_and_back(self):
        chance = random.Random(6)
        for net in (TWIG, TENT, KITE):
            now, value = nth(net, 0), ()
            for _ in range(12):
                turning = chance.choice(all_turnings(now))
                now, value = turned(now, turning), value + (turning,)
            self.assertTrue(self.check(nth(net, 0), now, value))
            self.assertTrue(self.check(nth(net, 0), nth(net, 0), value + value[::-1]))
            self.assertTrue(self.check(now, nth(net, 0), value[::-1]))

    def test_values_of_all_kinds(self):
        turning = ("a", "c", ("b", "d"))
        for value in wrong_values() + [nested("tuple", turning)]:
            for told in (value, (value,), (turning, value), (value, turning), (("a", "c", value),),
                         (("a", value, ("b",)),), ((value, "c", ("b",)),), (("a", "c", (value,)),)):
                self.check(FLAT, ~FLAT, told)
                self.check(FLAT, FLAT, told)
        for told in ([turning], (list(turning),), (("a", "c", ["b", "d"]),), (("a", "c", "bd"),), turning, [[turning]],
                     {0: turning}):
            self.assertFalse(self.check(FLAT, ~FLAT, told))
        self.assertTrue(self.check(FLAT, ~FLAT, (turning,)))


if __name__ == "__main__":
    unittest.main()
