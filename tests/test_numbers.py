"""Section 10, as far as it speaks of numbers of drawings."""

import math
import random
import unittest

from alldrawn.drawings import Drawing
from alldrawn.errors import BadNumber, NoDrawing
from alldrawn.nets import Net
from alldrawn.numbers import many, nth, number_of
from tests.helper import (BALL, CHAIN, Case, DEEP, FIVE, FLAT, FOUR, FULL, HEAPS, KITE, LONG, NETS, ODD, OTHER_NAMES,
                          ROADS, SPROUT, SQUARE, TEN, TENT, THIN, THREES, TIED_ROADS, TRIANGLE, TWIG, WHEEL,
                          all_drawings, drawings_by_roads, grown, renamed, text_of, up_to, wrong_values)

UNDRAWABLE = (FIVE, THREES, WHEEL, ODD, TEN, FULL)


def keys(drawings):
    return sorted(drawing.wheels for drawing in drawings)


class Numbers(Case):
    def check_all(self, net, drawings):
        """Each drawing has one number, each number one drawing."""
        self.same(many(net), len(drawings))
        told = [nth(net, number) for number in range(len(drawings))]
        self.assertEqual(keys(told), keys(drawings))
        for number, drawing in enumerate(told):
            self.assertIs(type(drawing), Drawing)
            self.assertEqual(drawing.net, net)
            self.same(number_of(drawing), number)
        for drawing in drawings:
            self.assertEqual(nth(net, number_of(drawing)), drawing)

    def check_some(self, net, number):
        found = nth(net, number)
        self.assertEqual(found.net, net)
        self.same(number_of(found), number)
        return found

    def test_as_in_the_document(self):
        self.same([many(KITE), many(FOUR), many(TWIG), many(FIVE)], [2, 2, 4, 0])
        self.same([number_of(nth(KITE, 1)), nth(KITE, number_of(FLAT)) == FLAT], [1, True])

    def test_all_nets_of_up_to_six_places(self):
        drawable = 0
        for net in up_to(6):
            with self.subTest(net=net.text):
                drawings = all_drawings(net)
                if drawings:
                    drawable += 1
                    self.check_all(net, drawings)
                else:
                    self.same(many(net), 0)
                    self.refused(NoDrawing, None, nth, net, 0)
        self.assertLess(50, drawable)

    def test_parts_within_parts(self):
        for net, number in ((DEEP, 864), (HEAPS, 32), (SPROUT, 64), (THIN, 8)):
            self.same(many(net), number)
            self.check_all(net, drawings_by_roads(net))

    def test_nets_that_grow(self):
        for seed in range(20):
            net = grown(seed, places=8 + seed % 9, ties=14 + seed)[0]
            drawings = drawings_by_roads(net)
            if len(drawings) <= 200:
                self.check_all(net, drawings)
            else:
                self.same(many(net), len(drawings))
                self.assertEqual(nth(net, number_of(drawings[7])), drawings[7])

    def test_one_part(self):
        for net in (TRIANGLE, SQUARE, LONG):
            self.same(many(net), 1)
            self.check_all(net, all_drawings(net))
        for net in (FOUR, BALL, CHAIN):
            self.same(many(net), 2)
            self.assertEqual(nth(net, 0), ~nth(net, 1))

    def test_great_numbers(self):
        chance = random.Random(1)
        for net, due in ((ROADS, math.factorial(13)), (TIED_ROADS, math.factorial(14))):
            self.same(many(net), due)
            for number in [0, 1, 2, due - 1, due // 2] + [chance.randrange(due) for _ in range(30)]:
                self.check_some(net, number)
            self.assertEqual(len({nth(net, number).wheels for number in range(200)}), 200)
            self.refused(BadNumber, due, nth, net, due)
            self.refused(BadNumber, due + 1, nth, net, due + 1)

    def test_each_order_of_a_bundle(self):
        # A drawing of roads between two places is told by their order around one of them.
        chance = random.Random(2)
        for _ in range(20):
            order = list(ROADS["a"])
            chance.shuffle(order)
            wheels = (tuple(order), tuple(order[::-1])) + (("a", "b"),) * 14
            drawing = Drawing(ROADS, wheels)
            self.assertEqual(nth(ROADS, number_of(drawing)), drawing)

    def test_mirror(self):
        for net in (KITE, TWIG, SPROUT, HEAPS, DEEP):
            for number in range(0, many(net), 7):
                about = ~nth(net, number)
                self.assertEqual(nth(net, number_of(about)), about)

    def test_undrawable(self):
        for net in UNDRAWABLE:
            self.same(many(net), 0)
            for value in wrong_values() + [2, 10 ** 39]:
                self.refused(NoDrawing, None, nth, net, value)

    def test_bad_numbers(self):
        for net in (KITE, TRIANGLE, TWIG):
            for value in wrong_values() + ["0", "1", (0,), [0], {0: 0}, many(net), many(net) + 1, -1, -2, 10 ** 39]:
                if type(value) is int and 0 <= value < many(net):
                    self.check_some(net, value)
                else:
                    self.refused_itself(BadNumber, value, nth, net, value)

    def test_names_and_sequence(self):
        for net in NETS + (CHAIN, SPROUT, ROADS, DEEP, HEAPS):
            self.same(many(renamed(net, OTHER_NAMES)), many(net))
            self.same(many(Net(text_of(net.places[::-1], net.ties))), many(net))

    def test_again(self):
        for net in (KITE, TWIG, TENT, SPROUT, ROADS):
            other = Net(text_of(net.places, [tie[::-1] for tie in net.ties[::-1]]))
            for number in range(min(8, many(net))):
                self.assertEqual(nth(other, number), nth(net, number))
                self.same(number_of(nth(other, number)), number)

    def test_arguments_stay(self):
        before = (TWIG.text, TWIG.places, TWIG.ties)
        drawing = nth(TWIG, 3)
        told = (drawing.net, drawing.wheels, drawing.lands)
        many(TWIG)
        number_of(drawing)
        self.same((TWIG.text, TWIG.places, TWIG.ties), before)
        self.assertEqual((drawing.net, drawing.wheels, drawing.lands), told)


if __name__ == "__main__":
    unittest.main()
