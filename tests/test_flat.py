"""Section 7: a drawing of a net, or a stuck net."""

import itertools
import random
import unittest

from alldrawn.drawings import Drawing
from alldrawn.errors import NoDrawing
from alldrawn.flat import check_drawn, draw, shows_draw
from alldrawn.nets import Net
from tests.helper import (BALL, CHAIN, Case, FIVE, FLAT, FOUR, FULL, KITE, LETTERS, LONG, NETS, ODD, SQUARE, TEN,
                          MOST_WHEELS, THREES, TRIANGLE, TWIG, WHEEL, all_drawings, bent, count_wheels,
                          drawings_by_roads, drawings_by_wheels, grown, marked, nested, net_of, right_answer, text_of,
                          up_to, wrong_values)

# Three and three places, each road from one to another over one place, and one over two.
FAR_THREES = Net(text_of("abcdefghijklmnop", [
    tuple(tie) for tie in "ag gd ah he ai if bj jd bk ke bl lf cm md cn ne co op pf".split()]))
# A ring of sixteen places that are tied over one another all round, an even number of them.
ROUND = CHAIN + ("o", "a") + ("p", "b")


def right_draw(net, value):
    return right_answer(value, "drawing", lambda drawing: drawing.net == net, "stuck", net.places, net.tied)


class Examples(Case):
    def test_as_in_the_document(self):
        self.same(draw(KITE)[0], "drawing")
        self.same(draw(FIVE)[0], "stuck")
        self.same(shows_draw(FIVE, ("stuck", FIVE.places, FIVE.ties)), True)
        self.same(shows_draw(KITE, ("drawing", FLAT)), True)
        self.same(shows_draw(KITE, ("drawing", "flat")), False)


class Draw(Case):
    def check(self, net, word):
        found = draw(net)
        self.assertIs(type(found), tuple)
        self.same(found[0], word)
        self.assertEqual(len(found), 2 if word == "drawing" else 3)
        self.assertIs(right_draw(net, found), True)
        self.assertIs(shows_draw(net, found), True)
        if word == "drawing":
            self.assertIs(type(found[1]), Drawing)
            check_drawn(net)
        else:
            self.assertEqual([type(part) for part in found[1:]], [tuple, tuple])
            self.refused(NoDrawing, None, check_drawn, net)
        return found

    def test_all_nets_of_up_to_six_places(self):
        for net in up_to(6):
            with self.subTest(net=net.text):
                drawings = all_drawings(net)
                found = self.check(net, "drawing" if drawings else "stuck")
                if drawings:
                    self.assertIn(found[1], drawings)

    def test_nets_that_grow(self):
        for seed in range(24):
            for ties in (17, 24, 30, 45):
                net = grown(seed, ties=ties)[0]
                with self.subTest(net=net.text):
                    self.check(net, "drawing")

    def test_nets_that_grow_and_a_tie_too_many(self):
        words = []
        for seed in range(24):
            net, lands = grown(seed, places=9 + seed % 8, ties=20 + seed)
            free = [tie for tie in itertools.combinations(net.places, 2) if not net.tied(*tie)]
            apart = [tie for tie in free if not any(tie[0] in land and tie[1] in land for land in lands)]
            for tie in random.Random(seed).sample(apart, min(6, len(apart))):
                found = draw(net + tie)
                words.append(found[0])
                self.check(net + tie, found[0])
        self.assertLess(20, words.count("stuck"))

    def test_three_places_and_sixteen_and_their_ties(self):
        self.check(TRIANGLE, "drawing")
        self.check(LONG, "drawing")
        self.check(CHAIN, "drawing")
        self.check(ROUND, "drawing")
        self.check(ODD, "stuck")
        self.check(TEN, "stuck")
        self.check(FULL, "stuck")
        self.check(grown(3, ties=45)[0], "drawing")

    def test_most_ties_that_can_be_drawn(self):
        # Three ties at each land: sixteen places have no more than 42 ties then.
        places = LETTERS[:16]
        ties = [(one, other) for one in "ab" for other in places[2:]] + [("a", "b")]
        net = Net(text_of(places, ties + list(zip(places[2:], places[3:]))))
        self.same(len(net.ties), 42)
        drawing = self.check(net, "drawing")[1]
        self.assertEqual({len(land) for land in drawing.lands}, {3})
        self.check(net + ("c", "p"), "stuck")
        self.check(net + ("d", "f"), "stuck")

    def test_five_hubs_and_six(self):
        for net in (FIVE, TEN):
            self.assertEqual(len(draw(net)[1]), 5)
        self.assertEqual(len(draw(THREES)[1]), 6)
        hubs, roads = self.check(FAR_THREES, "stuck")[1:]
        self.assertEqual((len(hubs), len(roads)), (6, 9))
        self.assertEqual(sorted(map(len, roads)), [3] * 8 + [4])
        net = net_of("a b c d e f g", "ab ac ad ae bc bd be cd ef fd eg gc")
        hubs, roads = self.check(net, "stuck")[1:]
        self.assertEqual((hubs, len(roads)), (("a", "b", "c", "d", "e"), 10))

    def test_hubs_ascend_as_python_sorts(self):
        net = net_of("z y e d c b a", "zy yc ze zb za ec eb ea cb ca ba da dz")
        hubs, roads = self.check(net, "stuck")[1:]
        self.assertEqual(hubs, ("a", "b", "c", "e", "z"))
        self.assertTrue({("z", "y", "c"), ("c", "y", "z")} & set(roads))

    def test_all_nets_with_a_road_or_a_place_more_are_stuck_still(self):
        for net in (FIVE, THREES):
            for one, other in itertools.combinations(net.places, 2):
                wider = Net(net.text.replace("\n", " q r\n", 1) + f"\ntie {one} q\ntie q r\ntie r {other}")
                self.check(wider, "stuck")

    def test_again_and_with_another_text(self):
        for net in NETS:
            first = draw(net)
            turned = Net(text_of(net.places, [tie[::-1] for tie in net.ties[::-1]]))
            for other in (net, Net(net.text), turned):
                self.assertEqual(draw(other), first)
            if first[0] == "drawing":
                self.assertEqual(first[1].net.text, net.text)

    def test_arguments_stay(self):
        for net in (KITE, FIVE):
            before = (net.text, net.places, net.ties)
            draw(net)
            self.same((net.text, net.places, net.ties), before)


class SlowOpinions(Case):
    def test_drawings_by_roads_are_those_by_wheels(self):
        for net in up_to(6):
            if count_wheels(net) <= MOST_WHEELS:
                by_roads = sorted(drawing.wheels for drawing in drawings_by_roads(net))
                self.assertEqual(by_roads, sorted(drawing.wheels for drawing in drawings_by_wheels(net)))
            else:
                # Too many wheels, and too many ties: with three at each land, six places have no more than 12.
                self.assertLess(12, len(net.ties))
                self.assertEqual(drawings_by_roads(net), [])


class ShowsDraw(Case):
    def check(self, net, value):
        due = right_draw(net, value)
        self.assertIs(shows_draw(net, value), due)
        return due

    def test_all_drawings(self):
        for net in up_to(5) + [TWIG]:
            for drawing in all_drawings(net):
                self.assertIs(shows_draw(net, ("drawing", drawing)), True)
                self.assertIs(shows_draw(net, ("stuck", drawing)), False)

    def test_drawings_of_other_nets(self):
        other = net_of("b a c d", "ab bc cd da ac")
        drawings = [FLAT, ~FLAT] + [draw(net)[1] for net in (other, KITE - ("a", "c"), FOUR, TWIG)]
        for net in (KITE, other, SQUARE, FOUR, FIVE):
            for drawing in drawings:
                self.check(net, ("drawing", drawing))
        self.assertIs(shows_draw(other, ("drawing", FLAT)), False)
        self.assertIs(shows_draw(Net(text_of(KITE.places, KITE.ties[::-1])), ("drawing", FLAT)), True)

    def test_values_of_all_kinds(self):
        for value in wrong_values() + [nested("tuple", ("stuck",)), ("drawing",), ("stuck",), ("drawing", KITE)]:
            for net in (KITE, FIVE, THREES):
                self.assertIs(shows_draw(net, value), False)
                self.assertIs(shows_draw(net, ("drawing", value)), net == KITE and marked(value) == marked(FLAT))
                self.assertIs(shows_draw(net, ("stuck", value, value)), False)
                self.assertIs(shows_draw(net, ("stuck", net.places, value)), False)
                self.assertIs(shows_draw(net, ("stuck", value, net.ties)), False)
                self.assertIs(shows_draw(net, ("stuck", net.places, net.ties[:-1] + (value,))), False)
                self.assertIs(shows_draw(net, (value, FLAT)), False)

    def test_bent_drawings(self):
        for net in (TRIANGLE, KITE, FOUR):
            value = draw(net)
            right = [self.check(net, other) for other in bent(value)]
            self.assertLess(5, right.count(False))

    def test_bent_stuck_nets(self):
        more = net_of("a b c d e f", "ab ac ad ae bc bd be cd ef fd ce")
        for net in (FIVE, THREES, WHEEL, more):
            value = draw(net)
            self.assertIs(self.check(net, value), True)
            right = [self.check(net, other) for other in bent(value)]
            self.assertLess(400, right.count(False))
            # Roads the other way round, and in another sequence, are right still.
            self.assertLess(10, right.count(True))

    def test_roads_told_otherwise(self):
        for net in (FIVE, THREES, WHEEL, FAR_THREES):
            word, hubs, roads = draw(net)
            self.assertIs(self.check(net, (word, hubs, roads[::-1])), True)
            self.assertIs(self.check(net, (word, hubs, tuple(road[::-1] for road in roads))), True)
            self.assertIs(self.check(net, (word, hubs[::-1], roads)), False)
            self.assertIs(self.check(net, (word, hubs, roads + roads[:1])), False)
            self.assertIs(self.check(net, (word, hubs, roads[:-1])), False)
            self.assertIs(self.check(net, (word, hubs, roads[:-1] + roads[:1])), False)
            self.assertIs(self.check(net, (word, hubs, roads[:-1] + (roads[0][::-1],))), False)
            self.assertIs(self.check(net, (word, hubs, list(roads))), False)
            self.assertIs(self.check(net, (word, list(hubs), roads)), False)
            self.assertIs(self.check(net, (word, hubs + hubs[-1:], roads)), False)
            self.assertIs(self.check(net, (word, hubs, ())), False)

    def test_other_roads_between_the_hubs(self):
        six = net_of("a b c d e f", "ab ac ad ae bc bd be cd ce de af fb fc")
        hubs = ("a", "b", "c", "d", "e")
        plain = list(itertools.combinations(hubs, 2))
        over = [("a", "f", "b") if road == ("a", "b") else road for road in plain]
        twice = [("c", "f", "b") if road == ("b", "c") else road for road in over]
        for roads, due in ((plain, True), (over, True), (twice, False), (over + [("a", "b")], False),
                           (plain[1:] + [("b", "f", "a")], True), (plain[:-1] + [("d", "f", "e")], False),
                           (plain[:-1] + [("d", "a", "e")], False), (plain[:-1] + [("d", "e", "d")], False),
                           (plain[:-1] + [("d",)], False), (plain[:-1] + [()], False),
                           (plain + [("a", "f")], False), (plain[1:] + [("a", "f")], False)):
            self.assertIs(self.check(six, ("stuck", hubs, tuple(roads))), due)
        self.assertIs(self.check(six, ("stuck", hubs[:4] + ("f",), tuple(plain))), False)

    def test_roads_that_share_an_inner_place(self):
        net = net_of("a b c x y z q", "aq qx qb by az bx bz cx cy cz ay")
        roads = ["aqx", "ay", "az", "bx", "by", "bz", "cx", "cy", "cz"]
        hubs = ("a", "b", "c", "x", "y", "z")
        self.assertIs(self.check(net, ("stuck", hubs, tuple(map(tuple, roads)))), True)
        shared = roads[:3] + ["bqx"] + roads[4:]
        self.assertIs(self.check(net, ("stuck", hubs, tuple(map(tuple, shared)))), False)
        self.assertIs(self.check(net, ("stuck", hubs, tuple(map(tuple, ["ax"] + roads[1:])))), False)

    def test_six_hubs_in_other_threes(self):
        # Nine roads between six hubs, three at each, but not crosswise.
        net = net_of("a b c d e f", "ab bc ca de ef fd ad be cf")
        self.assertIs(self.check(net, ("stuck", net.places, net.ties)), False)
        full = net_of("a b c d e f", "ab ac ad ae af bc bd be bf cd ce cf de df ef")
        for three in itertools.combinations("abcdef", 3):
            rest = [place for place in "abcdef" if place not in three]
            roads = tuple(itertools.product(three, rest))
            self.assertIs(self.check(full, ("stuck", full.places, roads)), True)
        self.assertIs(self.check(full, ("stuck", full.places, full.ties)), False)
        self.assertIs(self.check(full, ("stuck", full.places, full.ties[:9])), False)
        for five in itertools.combinations("abcdef", 5):
            roads = tuple(itertools.combinations(five, 2))
            self.assertIs(self.check(full, ("stuck", five, roads)), True)
            self.assertIs(self.check(full, ("stuck", full.places, roads)), False)

    def test_hubs_in_one_and_five_and_in_two_and_four(self):
        full = net_of("a b c d e f", "ab ac ad ae af bc bd be bf cd ce cf de df ef")
        for many in (1, 2, 4, 5):
            for some in itertools.combinations("abcdef", many):
                rest = [place for place in "abcdef" if place not in some]
                value = ("stuck", full.places, tuple(itertools.product(some, rest)))
                self.assertIs(self.check(full, value), False)

    def test_four_hubs(self):
        # Nine roads, three from each one of three hubs to the same one.
        roads = [(hub, "x") if not inner else (hub, inner, "x") for hub, more in zip("abc", ("de", "fg", "hi"))
                 for inner in ("", *more)]
        ties = {tuple(sorted(tie)) for road in roads for tie in zip(road, road[1:])} | {("a", "b"), ("b", "c")}
        net = Net(text_of("abcdefghix", sorted(ties)))
        self.assertIs(self.check(net, ("stuck", ("a", "b", "c", "x"), tuple(roads))), False)
        for many in (0, 1, 3, 4, 7):
            roads = tuple(itertools.combinations(TEN.places[:many], 2))
            self.assertIs(self.check(TEN, ("stuck", TEN.places[:many], roads)), False)
        self.assertIs(self.check(TEN, ("stuck", TEN.places[:5], tuple(itertools.combinations("abcde", 2)))), True)

    def test_nothing_that_has_a_drawing_is_stuck(self):
        for net in (FOUR, BALL, KITE):
            for hubs in (net.places, net.places[:5]):
                self.assertIs(self.check(net, ("stuck", hubs, net.ties)), False)


if __name__ == "__main__":
    unittest.main()
