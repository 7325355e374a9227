"""Section 13: how many ties a further tie must cross."""

import itertools
import random
import unittest

from alldrawn.drawings import Drawing
from alldrawn.errors import BadTie, NoDrawing, NoPlace
from alldrawn.flat import draw
from alldrawn.further import further, shows_further
from alldrawn.nets import Net
from alldrawn.numbers import many, nth
from alldrawn.parts import parts
from alldrawn.roads import roads_between
from alldrawn.sides import sides
from tests.helper import (BALL, Case, DEEP, FIVE, FLAT, FOUR, FULL, HEAPS, KITE, LETTERS, LONG, ODD, ROADS,
                          SPROUT, SQUARE, TEN, TENT, THIN, THREES, TRIANGLE, TWIG, WHEEL, all_drawings, bent,
                          drawings_by_roads, fewest_crossed, free_ties, grown, hang_together, lands_of, nested, net_of,
                          own_ties, rings_of, rings_once, side_of, text_of, tower, up_to, wrong_values)

ROUND = ("a", "b", "c", "d")
# A place in a ring of three, and one outside, with further places beside the ties of the ring.
LOOP = net_of("p x y z q e f g", "px py pz xy yz zx qx qy qz xe ey yf fz zg gx")


def can_cross(drawing, one, other, crossed):
    """Whether lands lead from one place to another one over these ties, one behind the other."""
    lands = lands_of(drawing.net, drawing.wheels)
    beside = {way: number for number, land in enumerate(lands) for way in land}
    there = {beside[one, near] for near in drawing.net[one]}
    for tie in crossed:
        two = (beside[tie], beside[tie[::-1]])
        there = {two[1 - at] for at in (0, 1) if two[at] in there}
    return bool(there & {beside[other, near] for near in drawing.net[other]})


def right_further(net, drawings, one, other, value):
    """Whether a value is right, straight from section 13: drawings are all of the net."""
    if type(value) is not tuple or len(value) != 4:
        return False
    number, drawing, crossed, rings = value
    if type(number) is not int or type(drawing) is not Drawing or drawing.net != net:
        return False
    if type(crossed) is not tuple or type(rings) is not tuple or not len(crossed) == len(rings) == number:
        return False
    if any(type(tie) is not tuple or tie not in net.ties for tie in crossed):
        return False
    if not can_cross(drawing, one, other, crossed):
        return False
    for ring in rings:
        if type(ring) is not tuple or any(type(place) is not str for place in ring):
            return False
        if ring not in rings_over(net, ring):
            return False
        if one in ring or other in ring:
            return False
        if any(side_of(drawn, ring, one) == side_of(drawn, ring, other) for drawn in drawings):
            return False
    own = [tie for ring in rings for tie in own_ties(ring)]
    return all(own.count(tie) == 1 for tie in own)


def rings_over(net, ring):
    """The ring alone, if it is one of the net."""
    if len(ring) < 3 or len(set(ring)) < len(ring) or not set(ring) <= set(net.places):
        return []
    return [ring] if all(net.tied(*tie) for tie in own_ties(ring)) else []


class Asked(Case):
    def check(self, net, drawings, one, other, number=None):
        found = further(net, one, other)
        self.assertEqual([type(part) for part in found], [int, Drawing, tuple, tuple])
        self.assertIs(right_further(net, drawings, one, other, found), True, found)
        self.assertIs(shows_further(net, one, other, found), True)
        if number is not None:
            self.same(found[0], number)
        return found


class Examples(Case):
    def test_as_in_the_document(self):
        self.same([further(KITE, "b", "d")[0], further(TWIG, "t", "b")[0], further(BALL, "t", "u")[0]], [0, 0, 1])
        drawing = draw(BALL)[1]
        self.same([shows_further(BALL, "t", "u", (1, drawing, (("b", "c"),), (ROUND,))),
                   shows_further(BALL, "t", "u", (1, drawing, (("b", "t"),), (ROUND,)))], [True, False])


class Further(Asked):
    def test_all_nets_of_up_to_six_places(self):
        numbers = []
        for net in up_to(6):
            drawings = all_drawings(net)
            for one, other in free_ties(net) if drawings else ():
                with self.subTest(net=net.text, one=one, other=other):
                    numbers.append(min(fewest_crossed(drawing, one, other) for drawing in drawings))
                    found = self.check(net, drawings, one, other, numbers[-1])
                    self.assertIn(found[1], drawings)
                    self.check(net, drawings, other, one, numbers[-1])
        self.assertEqual(set(numbers), {0, 1})

    def test_nets_that_grow(self):
        numbers = []
        chance = random.Random(1)
        for seed in range(24):
            net, lands = grown(seed, places=9 + seed % 8, ties=16 + seed)
            drawings = drawings_by_roads(net)
            pairs = free_ties(net)
            for one, other in chance.sample(pairs, min(len(pairs), 5)):
                few = drawings if len(drawings) <= 64 else chance.sample(drawings, 64)
                least = min(fewest_crossed(drawing, one, other) for drawing in drawings[:600])
                found = self.check(net, few, one, other, least if len(drawings) <= 600 else None)
                self.assertLessEqual(found[0], least)
                numbers.append(found[0])
        self.assertLess(1, max(numbers))

    def test_full_nets(self):
        chance = random.Random(2)
        for seed in (1, 3, 7):
            net = grown(seed, ties=45)[0]
            drawings = drawings_by_roads(net)
            for one, other in chance.sample(free_ties(net), 8):
                self.check(net, drawings[:30], one, other)
        # As many ties as can be, with a drawing, and 45 of them without.
        self.refused(NoDrawing, None, further, FULL, *free_ties(FULL)[0])

    def test_rows_and_bundles(self):
        for net in (SQUARE, LONG, ROADS, DEEP, THIN, SPROUT):
            drawing = nth(net, 0)
            for one, other in free_ties(net)[::5]:
                found = self.check(net, [drawing], one, other, 0)
                self.same(found[2:], ((), ()))

    def test_stiff_parts_behind_one_another(self):
        drawings = drawings_by_roads(HEAPS)
        for one, other in free_ties(HEAPS):
            self.check(HEAPS, drawings[:8], one, other,
                       min(fewest_crossed(drawing, one, other) for drawing in drawings))

    def test_both_in_one_land_of_some_drawing_alone(self):
        # In most drawings a tie must be crossed, in some none.
        net = net_of("a b c d e f g", "ac cb ad db ae eb af fb ag gb cd")
        drawings = all_drawings(net)
        seen = set()
        for one, other in free_ties(net):
            numbers = [fewest_crossed(drawing, one, other) for drawing in drawings]
            seen.add((min(numbers), max(numbers)))
            self.check(net, drawings, one, other, min(numbers))
        self.assertEqual(seen, {(0, 0), (0, 1)})


class Towers(Asked):
    """Rings around a place, one around the other."""

    def net(self, *tied):
        places = sorted({place for tie in tied for place in tie})
        return Net(text_of(places, tied))

    def test_rings(self):
        for rings in (1, 2, 3, 4):
            ties, _ = tower("bcdefghijklmnop", rings, 0, "a")
            net = self.net(*ties)
            self.same([part[0] for part in parts(net)], ["stiff"])
            found = self.check(net, drawings_by_roads(net), "a", "b", rings)
            self.same(sorted(map(len, found[3])), [3] * rings)
            self.check(net, drawings_by_roads(net), "b", "a", rings)

    def test_roads_beside_ties(self):
        for rings, beside in ((1, 1), (2, 1), (2, 2), (3, 1)):
            ties, _ = tower("bcdefghijklmnop", rings, beside, "a")
            net = self.net(*ties)
            drawings = drawings_by_roads(net)
            found = self.check(net, drawings[::1 + len(drawings) // 60], "a", "b", rings + beside)
            # A ring beside the ring: its ties are those of the roads.
            self.same(sorted(map(len, found[3])), [3] * rings + [6] * beside)
            self.assertEqual(min(fewest_crossed(drawing, "a", "b") for drawing in drawings), rings + beside)

    def test_three_roads_beside_one_tie(self):
        # Between p and q a ring goes over ties, some as thick as three; the thinnest one is crossed.
        for thick in ((1, 1, 1), (2, 1, 3), (2, 3, 2), (3, 3, 2)):
            ties, rest = tower("pxyz", 1, 0, "q")
            names = list("abcdefgh")
            for (one, other), count in zip((("x", "y"), ("y", "z"), ("z", "x")), thick):
                for _ in range(count - 1):
                    ties += [(one, names[0]), (names.pop(0), other)]
            net = self.net(*ties)
            drawings = drawings_by_roads(net)
            self.check(net, drawings[::1 + len(drawings) // 40], "p", "q", min(thick))

    def test_two_towers_at_the_same_two_places(self):
        for rings, more, tied in ((1, 1, False), (2, 1, False), (2, 2, False), (2, 2, True), (1, 2, True)):
            ties, _ = tower("cdefghi", rings, 0, "a", "b")
            second, _ = tower("jklmnop", more, 0, "a", "b")
            net = self.net(*ties, *second, *([("a", "b")] if tied else []))
            sorts = sorted(part[0] for part in parts(net))
            self.same(sorts, ["bundle", "stiff", "stiff"] if tied else ["stiff", "stiff"])
            drawings = drawings_by_roads(net)
            least = min(fewest_crossed(drawing, "c", "j") for drawing in drawings)
            self.same(least, rings + more)
            self.check(net, drawings, "c", "j", least)
            for one, other in (("d", "j"), ("c", "k"), ("d", "k"), ("e", "l"), ("f", "m")):
                if one in net and other in net:
                    self.check(net, drawings, one, other,
                               min(fewest_crossed(drawing, one, other) for drawing in drawings))

    def test_two_towers_with_roads_beside(self):
        ties, _ = tower("cdefghi", 1, 1, "a", "b")
        second, _ = tower("jklmnop", 1, 1, "a", "b")
        net = self.net(*ties, *second)
        drawings = drawings_by_roads(net)
        least = min(fewest_crossed(drawing, "c", "j") for drawing in drawings)
        found = self.check(net, drawings[::1 + len(drawings) // 50], "c", "j", least)
        self.same(found[0], 4)

    def test_a_tower_beside_a_tie_of_a_tower(self):
        # What hangs beside a tie of the ring is so thick as the fewest ties that part its ends.
        ties, _ = tower("pxyz", 1, 0, "q")
        inside, _ = tower("cdef", 1, 0, "x", "y")
        around = [("y", "h"), ("h", "z"), ("y", "i"), ("i", "z"), ("z", "j"), ("j", "x"), ("z", "k"), ("k", "x")]
        net = self.net(*ties, *inside, *around)
        drawings = drawings_by_roads(net)
        self.same(min(fewest_crossed(drawing, "p", "q") for drawing in drawings[:500]), 3)
        self.check(net, drawings[::1 + len(drawings) // 40], "p", "q", 3)
        # From within that which hangs there to without.
        self.check(net, drawings[::1 + len(drawings) // 40], "c", "p")
        self.check(net, drawings[::1 + len(drawings) // 40], "c", "q")

    def test_levels_of_a_whole_drawing_would_not_do(self):
        # What hangs on a ring at two places has lands of its own, on which no ring may rest.
        ties, _ = tower("pxyz", 1, 0, "q")
        ties += [("x", "a"), ("a", "y"), ("a", "b"), ("b", "y"), ("x", "b"), ("y", "c"), ("c", "z"), ("z", "d")]
        ties += [("d", "x")]
        net = self.net(*ties)
        drawings = drawings_by_roads(net)
        self.check(net, drawings, "p", "q", min(fewest_crossed(drawing, "p", "q") for drawing in drawings))
        for one, other in free_ties(net):
            self.check(net, drawings, one, other, min(fewest_crossed(drawing, one, other) for drawing in drawings))


class Refused(Case):
    def test_places(self):
        for value in wrong_values():
            for net in (KITE, TWIG, FIVE):
                for call, given in ((further, ()), (shows_further, (None,)), (shows_further, (value,))):
                    self.refused_itself(NoPlace, value, call, net, value, "b", *given)
                    self.refused_itself(NoPlace, value, call, net, value, [], *given)
                    self.refused_itself(NoPlace, value, call, net, "b", value, *given)

    def test_ties(self):
        for net in (KITE, TWIG, FIVE, BALL, THREES):
            for one, other in itertools.product(net.places, net.places):
                if one == other or net.tied(one, other):
                    self.refused(BadTie, (one, other), further, net, one, other)
                    self.refused(BadTie, (one, other), shows_further, net, one, other, (0, FLAT, (), ()))

    def test_undrawable(self):
        for net in (THREES, WHEEL, ODD):
            for one, other in free_ties(net)[:4]:
                self.refused(NoDrawing, None, further, net, one, other)
                self.refused(NoDrawing, None, shows_further, net, other, one, (0, FLAT, (), ()))
        # All places are tied: no further tie is left.
        self.refused(BadTie, ("a", "b"), further, FIVE, "a", "b")
        self.refused(BadTie, ("c", "c"), further, TEN, "c", "c")

    def test_arguments_stay(self):
        before = (BALL.text, BALL.places, BALL.ties)
        further(BALL, "t", "u")
        self.same((BALL.text, BALL.places, BALL.ties), before)

    def test_again(self):
        for net, one, other in ((BALL, "t", "u"), (TWIG, "t", "b"), (HEAPS, "h", "k"), (KITE, "b", "d")):
            again = Net(text_of(net.places, [tie[::-1] for tie in net.ties[::-1]]))
            self.assertEqual(further(again, one, other), further(net, one, other))


class ShowsFurther(Asked):
    def cases(self):
        ties, _ = tower("bcdefgh", 2, 0, "a")
        yield Net(text_of("abcdefgh", ties)), "a", "b"
        yield from ((BALL, "t", "u"), (KITE, "b", "d"), (TWIG, "t", "b"), (TENT, "c", "f"), (SQUARE, "a", "c"))

    def compare(self, net, drawings, one, other, value):
        due = right_further(net, drawings, one, other, value)
        self.assertIs(shows_further(net, one, other, value), due, value)
        return due

    def test_bent(self):
        for net, one, other in self.cases():
            drawings = drawings_by_roads(net)
            value = further(net, one, other)
            right = [self.compare(net, drawings, one, other, worse) for worse in bent(value)]
            self.assertLess(20, right.count(False))

    def test_all_rings_and_ties(self):
        drawings = all_drawings(BALL)
        right = 0
        for drawing in drawings:
            for tie in BALL.ties:
                for told in (tie, tie[::-1]):
                    right += self.compare(BALL, drawings, "t", "u", (1, drawing, (told,), (ROUND,)))
            for ring in rings_of(BALL)[::3]:
                right += self.compare(BALL, drawings, "t", "u", (1, drawing, (("a", "b"),), (ring,)))
        # Eight, by the ring as given; and the rings round the ball, told from any place, any way.
        self.assertLess(8, right)

    def test_all_drawings(self):
        for net, one, other in self.cases():
            drawings = drawings_by_roads(net)
            value = further(net, one, other)
            for drawing in drawings + [FLAT, nth(FOUR, 0), ~drawings[0]]:
                self.compare(net, drawings, one, other, (value[0], drawing) + value[2:])
                self.compare(net, drawings, one, other, (value[0], drawing, value[2][::-1], value[3][::-1]))
                self.compare(net, drawings, other, one, (value[0], drawing, value[2][::-1], value[3]))

    def test_all_pairs_of_rings(self):
        # Rings that part the places in no drawing, or that share a tie, show nothing.
        ties, _ = tower("bcdefgh", 2, 0, "a")
        net = Net(text_of("abcdefgh", ties))
        drawings = drawings_by_roads(net)
        number, drawing, crossed, _ = further(net, "a", "b")
        rings = [ring for ring in rings_once(net) if not {"a", "b"} & set(ring)]
        right = [self.compare(net, drawings, "a", "b", (number, drawing, crossed, (one, other)))
                 for one in rings for other in rings]
        self.assertLess(1, right.count(True))
        apart = [ring for ring in rings if side_of(drawing, ring, "a") != side_of(drawing, ring, "b")]
        self.assertLess(right.count(True), len(apart) ** 2)
        self.assertLess(len(apart), len(rings))

    def test_rings_that_part_in_some_drawings_alone(self):
        # One can cross a tie of the drawing, but the ring does not show that one must.
        words = []
        for net in up_to(5) + [TWIG, TENT, LOOP, BALL - ("a", "b")]:
            drawings = drawings_by_roads(net)
            for one, other in free_ties(net) if drawings else ():
                rings = [ring for ring in rings_once(net) if not {one, other} & set(ring)]
                for drawing in drawings[:3]:
                    ways = [tie for tie in net.ties if can_cross(drawing, one, other, (tie,))][:2]
                    for tie, ring in itertools.product(ways, rings):
                        right = self.compare(net, drawings, one, other, (1, drawing, (tie,), (ring,)))
                        words.append((sides(net, ring, one, other)[0], right))
        self.assertLess(10, min(words.count(("apart", True)), words.count(("open", False)),
                                words.count(("together", False))))
        self.assertFalse({("apart", False), ("open", True), ("together", True)} & set(words))

    def test_more_than_must_be(self):
        # One can cross more ties; then there are no rings that show that one must.
        drawing = nth(BALL, 0)
        crossed = (("a", "t"), ("a", "b"))
        for rings in ((ROUND,), (ROUND, ROUND), (ROUND, ROUND[::-1]), ()):
            for number in (0, 1, 2):
                self.assertIs(shows_further(BALL, "t", "u", (number, drawing, crossed, rings)), False)
        for number in (0, 1, 2):
            self.assertIs(shows_further(KITE, "b", "d", (number, FLAT, (("a", "c"),), (ROUND,))), False)
        self.assertIs(shows_further(BALL, "t", "u", (0, drawing, (), ())), False)

    def test_kinds(self):
        drawing = nth(BALL, 0)
        self.assertIs(shows_further(BALL, "t", "u", (1, drawing, (("a", "b"),), (ROUND,))), True)
        for value in ((True, drawing, (("a", "b"),), (ROUND,)), [1, drawing, (("a", "b"),), (ROUND,)],
                      (1, drawing, [("a", "b")], (ROUND,)), (1, drawing, (["a", "b"],), (ROUND,)),
                      (1, drawing, (("a", "b"),), [ROUND]), (1, drawing, (("a", "b"),), (list(ROUND),)),
                      (1, drawing, (("b", "a"),), (ROUND,)), (1, drawing, ("ab",), (ROUND,)),
                      (1, drawing, (("a", "b"),), ("abcd",)), (1, drawing, (("a", "b"),), (ROUND,), ()),
                      ("1", drawing, (("a", "b"),), (ROUND,)), (1, drawing.wheels, (("a", "b"),), (ROUND,)),
                      (1, drawing, {("a", "b"): 1}, (ROUND,)), (1, drawing, (("a", "c"),), (ROUND,)), (1, drawing), ()):
            self.assertIs(shows_further(BALL, "t", "u", value), False)
        self.assertIs(shows_further(KITE, "b", "d", (0, FLAT, (), ())), True)
        self.assertIs(shows_further(KITE, "b", "d", (False, FLAT, (), ())), False)
        self.assertIs(shows_further(KITE, "b", "d", (0, FLAT, [], ())), False)

    def test_values_of_all_kinds(self):
        drawing = nth(BALL, 0)
        drawings = all_drawings(BALL)
        for value in wrong_values() + [nested("tuple", ROUND)]:
            for told in (value, (value, drawing, (("a", "b"),), (ROUND,)), (1, value, (("a", "b"),), (ROUND,)),
                         (1, drawing, value, (ROUND,)), (1, drawing, (value,), (ROUND,)),
                         (1, drawing, (("a", value),), (ROUND,)), (1, drawing, (("a", "b"),), value),
                         (1, drawing, (("a", "b"),), (value,)), (1, drawing, (("a", "b"),), (("a", "b", "c", value),)),
                         (value, value, value, value)):
                self.compare(BALL, drawings, "t", "u", told)


class Roads(Case):
    """Roads without a common tie, as many as ties part two places at the least."""

    def fewest_that_part(self, ties, start, end):
        places = {place for tie in ties for place in tie}
        for count in range(len(ties) + 1):
            for gone in itertools.combinations(ties, count):
                left = [tie for tie in ties if tie not in gone]
                joined = {start}
                for _ in places:
                    joined |= {place for tie in left if joined & set(tie) for place in tie}
                if end not in joined:
                    return count
        return None

    def test_roads(self):
        for net in (KITE, TWIG, TENT, BALL, FOUR, SPROUT, TRIANGLE):
            for start, end in list(itertools.permutations(net.places, 2))[::3]:
                roads = roads_between({place: net[place] for place in net.places}, start, end)
                used = [frozenset(tie) for road in roads for tie in zip(road, road[1:])]
                self.assertEqual(len(set(used)), len(used))
                for road in roads:
                    self.assertEqual((road[0], road[-1], len(set(road))), (start, end, len(road)))
                    self.assertTrue(all(net.tied(*tie) for tie in zip(road, road[1:])))
                if len(net.ties) < 13:
                    self.assertEqual(len(roads), self.fewest_that_part(net.ties, start, end))

    def test_hangs_together(self):
        # A road that has no other way than over a place twice is told without the ring.
        near = {"a": ("x",), "x": ("a", "y", "z", "b"), "y": ("x", "z"), "z": ("x", "y"), "b": ("x",)}
        self.same(roads_between(near, "a", "b"), [("a", "x", "b")])
        self.assertTrue(hang_together("axyzb", [("a", "x"), ("x", "y"), ("y", "z"), ("x", "b")]))
        self.same(roads_between({"a": ("b",), "b": ("a",)}, "a", "b"), [("a", "b")])


class Many(Case):
    def test_number_of_drawings_is_not_needed(self):
        # Where there are too many drawings to go through them, rings and a drawing tell it all the same.
        ties, rest = tower("bcdefgh", 2, 0, "a")
        net = Net(text_of(LETTERS, ties + [(end, place) for place in "ijklmnop" for end in "cd"]))
        self.assertLess(10 ** 4, many(net))
        found = further(net, "a", "b")
        self.same(found[0], 2)
        self.assertIs(shows_further(net, "a", "b", found), True)
        self.assertIs(right_further(net, [nth(net, number) for number in range(0, many(net), many(net) // 9)], "a", "b",
                                    found), True)


if __name__ == "__main__":
    unittest.main()
