"""Section 9: places in one land, ties side by side, further ties."""

import itertools
import unittest

from alldrawn.drawings import Drawing
from alldrawn.errors import BadPlaces, BadTies, Full, NoPlace
from alldrawn.nets import Net
from alldrawn.wishes import beside, meet, shows_beside, shows_meet, shows_with_ties, with_ties
from tests.helper import (BALL, CHAIN, Case, FIVE, FLAT, FOUR, FULL, KITE, LONG, ODD, SQUARE, TEN, THREES, TRIANGLE,
                          TWIG, WHEEL, all_drawings, bent, drawings_by_roads, free_ties, grown, nested, net_of,
                          right_answer, text_of, up_to, wrong_values)


def lands_meet(drawing, some):
    return any(set(some) <= set(land) for land in drawing.lands)


def stand_together(drawing, place, some):
    """Whether some neighbours, told from one of them on, stand in the wheel one behind the other."""
    wheel = drawing.wheels[drawing.net.places.index(place)]
    starts = [wheel[at:] + wheel[:at] for at in range(len(wheel))]
    return any(set(start[:len(some)]) == set(some) for start in starts)


def tied_by(pairs):
    pairs = {frozenset(pair) for pair in pairs}
    return lambda one, other: one != other and frozenset((one, other)) in pairs


def right_meet(net, some, value):
    tied = tied_by(net.ties + tuple(("", place) for place in some))
    return right_answer(value, "some", lambda drawing: drawing.net == net and lands_meet(drawing, some), "never",
                        ("",) + net.places, tied)


def right_beside(net, place, some, value):
    moved = [("" if end == place else end, "" if other == place else other) if place in (end, other)
             and set(some) & {end, other} else (end, other) for end, other in net.ties]
    return right_answer(value, "some", lambda drawing: drawing.net == net and stand_together(drawing, place, some),
                        "never", ("",) + net.places, tied_by(moved + [("", place)]))


def right_with_ties(net, ties, value):
    whole = Net(text_of(net.places, net.ties + ties))
    return right_answer(value, "some", lambda drawing: drawing.net == whole, "never", net.places,
                        tied_by(whole.ties))


def groups_at(net, place):
    """All tuples of neighbours that beside can be asked about, each in one sequence."""
    near = net[place]
    return [some for many in range(2, len(near) - 1) for some in itertools.combinations(near, many)]


class Asked(Case):
    def check_answer(self, found, word):
        self.assertIs(type(found), tuple)
        self.same(found[0], word)
        self.assertEqual([type(part) for part in found[1:]], [Drawing] if word == "some" else [tuple, tuple])

    def check_meet(self, net, some, word):
        found = meet(net, some)
        self.check_answer(found, word)
        self.assertIs(right_meet(net, some, found), True)
        self.assertIs(shows_meet(net, some, found), True)
        return found

    def check_beside(self, net, place, some, word):
        found = beside(net, place, some)
        self.check_answer(found, word)
        self.assertIs(right_beside(net, place, some, found), True)
        self.assertIs(shows_beside(net, place, some, found), True)
        return found

    def check_with_ties(self, net, ties, word):
        found = with_ties(net, ties)
        self.check_answer(found, word)
        self.assertIs(right_with_ties(net, ties, found), True)
        self.assertIs(shows_with_ties(net, ties, found), True)
        return found


class Examples(Case):
    def test_as_in_the_document(self):
        self.same([meet(TWIG, ("t", "u"))[0], meet(TWIG, ("b", "d", "t"))[0], meet(FOUR, ("a", "b", "c"))[0],
                   meet(BALL, ("t", "u"))[0]], ["some", "never", "some", "never"])
        self.same([beside(TWIG, "a", ("b", "t"))[0], beside(BALL, "t", ("a", "b"))[0],
                   beside(BALL, "t", ("a", "c"))[0], with_ties(TWIG, (("b", "t"), ("d", "u")))[0],
                   with_ties(BALL, (("t", "u"),))[0]], ["some", "some", "never", "some", "never"])


class Meet(Asked):
    def test_all_nets_of_up_to_six_places(self):
        for at, net in enumerate(up_to(6)):
            drawings = all_drawings(net)
            for many in (2, 3):
                for to, some in enumerate(itertools.combinations(net.places, many)):
                    if not drawings and (at + to) % 4:
                        continue
                    word = "some" if any(lands_meet(drawing, some) for drawing in drawings) else "never"
                    some = list(itertools.permutations(some))[(at + to) % (2 if many == 2 else 6)]
                    found = self.check_meet(net, some, word)
                    if word == "some":
                        self.assertIn(found[1], drawings)

    def test_nets_that_grow(self):
        words = []
        for seed in range(12):
            net = grown(seed, ties=20 + 2 * seed)[0]
            drawings = drawings_by_roads(net)
            if len(drawings) > 200:
                continue
            threes = list(itertools.combinations(net.places, 3))[seed::97]
            for some in list(itertools.combinations(net.places, 2))[seed::23] + threes:
                words.append("some" if any(lands_meet(drawing, some) for drawing in drawings) else "never")
                self.check_meet(net, some, words[-1])
        self.assertLess(10, min(words.count("some"), words.count("never")))

    def test_tied_places(self):
        for net in (TRIANGLE, FOUR, TWIG, BALL, CHAIN):
            for tie in net.ties[::5]:
                self.check_meet(net, tie, "some")
                self.check_meet(net, tie[::-1], "some")

    def test_full_nets(self):
        self.check_meet(FULL, ("a", "i"), "never")
        self.check_meet(TEN, ("a", "b", "c"), "never")
        self.check_meet(LONG, ("a", "i", "l"), "some")
        self.check_meet(grown(3, ties=45)[0], grown(3, ties=45)[1][0][:3], "some")

    def test_further_place_comes_first(self):
        hubs, roads = meet(BALL, ("t", "u"))[1:]
        self.assertTrue(any("" in road for road in roads))
        self.assertEqual(hubs, tuple(sorted(hubs)))
        # Without the further place there is a drawing, and with only two ties at it, it would be no hub.
        net = net_of("a b c x y", "ax ay bx by cx cy ab")
        hubs, roads = self.check_meet(net, ("a", "b", "c"), "never")[1:]
        self.assertEqual(hubs, ("", "a", "b", "c", "x", "y"))
        self.assertIn(("", "c"), {road if road[0] == "" else road[::-1] for road in roads})

    def test_without_a_drawing(self):
        for net in (FIVE, THREES, WHEEL, ODD):
            for some in (net.places[:2], net.places[1:4], net.places[::-2][:3]):
                self.check_meet(net, some, "never")

    def test_refused(self):
        wrong = [(), ("a",), ("a", "a"), ("a", "b", "a"), ("a", "b", "c", "d"), ["a", "b"], "ab", "abc", ("a", "q"),
                 ("a", ""), ("", "a"), ("a", "b", ""), ("a", ("b",)), {"a", "b"}, (("a", "b"),)]
        for value in wrong_values() + wrong:
            for net in (KITE, FIVE, LONG):
                with self.subTest(value=value):
                    self.refused_itself(BadPlaces, value, meet, net, value)
                    self.refused_itself(BadPlaces, value, shows_meet, net, value, value)

    def test_again(self):
        for net, some in ((TWIG, ("t", "u")), (BALL, ("t", "u")), (FIVE, ("a", "b", "c"))):
            for other in (net, Net(net.text), Net(text_of(net.places, net.ties[::-1]))):
                self.assertEqual(meet(other, some), meet(net, some))


class ShowsMeet(Asked):
    def check(self, net, some, value):
        due = right_meet(net, some, value)
        self.assertIs(shows_meet(net, some, value), due, value)
        return due

    def test_all_drawings(self):
        other = Net("places b a c d t u" + TWIG.text[len("places a b c d t u"):])
        for net in (TWIG, other, BALL, TWIG - ("b", "d")):
            for drawing in all_drawings(TWIG) + all_drawings(other) + all_drawings(BALL) + [FLAT]:
                for some in list(itertools.combinations(net.places, 2)) + list(itertools.combinations(net.places, 3)):
                    self.check(net, some, ("some", drawing))
                    self.assertIs(shows_meet(net, some, ("never", drawing)), False)

    def test_bent(self):
        for net, some in ((TWIG, ("t", "u")), (TWIG, ("b", "d", "t")), (BALL, ("u", "t")), (FIVE, ("a", "b"))):
            value = meet(net, some)
            self.assertIs(self.check(net, some, value), True)
            right = [self.check(net, some, worse) for worse in bent(value)]
            self.assertLess(5, right.count(False))

    def test_values_of_all_kinds(self):
        for value in wrong_values() + [nested("tuple", "some")]:
            for told in (value, ("some", value), ("never", value, value), ("never", ("", "a", "b", "c", "d"), value),
                         (value, FLAT), ("some", FLAT, value)):
                for some in (("b", "d"), ("a", "b", "c")):
                    self.check(KITE, some, told)

    def test_further_place_is_tied_with_just_these(self):
        # All of five places, and a further one, that is tied with three of them, as if it were another net.
        net = FIVE - ("a", "b")
        hubs, roads = ("a", "b", "c", "d", "e"), list(net.ties)
        self.assertIs(self.check(net, ("a", "b"), ("never", hubs, tuple(roads + [("a", "", "b")]))), True)
        self.assertIs(self.check(net, ("a", "b"), ("never", hubs, tuple(roads + [("b", "", "a")]))), True)
        self.assertIs(self.check(net, ("a", "c"), ("never", hubs, tuple(roads + [("a", "", "b")]))), False)
        self.assertIs(self.check(net, ("a", "b"), ("never", hubs, tuple(roads + [("a", "b")]))), False)
        self.assertIs(self.check(net, ("a", "b"), ("never", hubs, tuple(roads + [("a", "q", "b")]))), False)
        self.assertIs(self.check(net, ("a", "b", "c"), ("never", hubs, tuple(roads + [("a", "", "b")]))), True)
        self.assertIs(self.check(net, ("a", "b"), ("stuck", hubs, tuple(roads + [("a", "", "b")]))), False)


class Beside(Asked):
    def test_all_nets_of_up_to_six_places(self):
        for at, net in enumerate(up_to(6)):
            drawings = all_drawings(net)
            for place in net.places:
                for to, some in enumerate(groups_at(net, place)):
                    if not drawings and (at + to) % 6:
                        continue
                    word = "some" if any(stand_together(drawing, place, some) for drawing in drawings) else "never"
                    some = some[to % len(some):] + some[:to % len(some)]
                    found = self.check_beside(net, place, some, word)
                    if word == "some":
                        self.assertIn(found[1], drawings)

    def test_nets_that_grow(self):
        words = []
        for seed in range(12):
            net = grown(seed, places=12, ties=20 + seed)[0]
            drawings = drawings_by_roads(net)
            if len(drawings) > 300:
                continue
            for place in net.places[seed % 3::3]:
                for some in groups_at(net, place)[::9]:
                    words.append("some" if any(stand_together(one, place, some) for one in drawings) else "never")
                    self.check_beside(net, place, some, words[-1])
        self.assertLess(10, min(words.count("some"), words.count("never")))

    def test_many_neighbours(self):
        hub = net_of("h a b c d e f", "ha hb hc hd he hf ab bc cd de ef fa")
        self.check_beside(hub, "h", ("b", "c"), "some")
        self.check_beside(hub, "h", ("f", "a", "b", "c"), "some")
        self.check_beside(hub, "h", ("a", "b", "c", "e"), "never")
        self.check_beside(hub, "h", ("a", "d"), "never")
        loose = net_of("h g a b c d e f", "ha hb hc hd he hf ga gb gc gd ge gf")
        for some in groups_at(loose, "h"):
            self.check_beside(loose, "h", some[::-1], "some")

    def test_without_a_drawing(self):
        for net, place in ((FIVE, "a"), (WHEEL, "a"), (ODD, "b"), (TEN, "c")):
            some = net[place]
            self.check_beside(net, place, some[:2], "never")
            self.check_beside(net, place, some[2:], "never")
        self.check_beside(FULL, "a", FULL["a"][3:9], "never")

    def test_place_first(self):
        for value in wrong_values():
            self.refused_itself(NoPlace, value, beside, BALL, value, ("a", "b"))
            self.refused_itself(NoPlace, value, shows_beside, BALL, value, value, value)

    def test_refused(self):
        wrong = [(), ("a",), ("a", "a"), ("a", "b", "a"), ("a", "b", "c"), ("a", "b", "c", "d"), ["a", "b"], "ab",
                 ("a", "u"), ("a", "t"), ("a", ""), ("t", "u"), ("a", ("b",)), {"a", "b"}, (("a", "b"),), ("a", "q"),
                 ("a", "b", "b")]
        for value in wrong_values() + wrong:
            with self.subTest(value=value):
                self.refused_itself(BadPlaces, value, beside, BALL, "t", value)
                self.refused_itself(BadPlaces, value, shows_beside, BALL, "t", value, None)
        # Two neighbours, or three: never two, and two others.
        for net, place in ((KITE, "b"), (KITE, "a"), (SQUARE, "a"), (FOUR, "d")):
            for many in range(4):
                for some in itertools.permutations(net[place], many):
                    self.refused_itself(BadPlaces, some, beside, net, place, some)
        self.refused(BadPlaces, ("a", "b", "c"), beside, FIVE, "e", ("a", "b", "c"))

    def test_again(self):
        for net, place, some in ((TWIG, "a", ("b", "t")), (BALL, "t", ("a", "c")), (FIVE, "a", ("b", "c"))):
            for other in (net, Net(net.text), Net(text_of(net.places, net.ties[::-1]))):
                self.assertEqual(beside(other, place, some), beside(net, place, some))


class ShowsBeside(Asked):
    def check(self, net, place, some, value):
        due = right_beside(net, place, some, value)
        self.assertIs(shows_beside(net, place, some, value), due, value)
        return due

    def test_all_drawings(self):
        loose = net_of("h g a b c d e", "ha hb hc hd he ga gb gc gd ge")
        for net in (TWIG, BALL, loose):
            for drawing in all_drawings(net)[::2] + all_drawings(TWIG)[:1]:
                for place in net.places:
                    for some in groups_at(net, place):
                        self.check(net, place, some, ("some", drawing))
                        self.assertIs(shows_beside(net, place, some, ("never", drawing)), False)

    def test_bent(self):
        for net, place, some in ((TWIG, "a", ("b", "t")), (BALL, "t", ("a", "c")), (FIVE, "a", ("c", "b"))):
            value = beside(net, place, some)
            self.assertIs(self.check(net, place, some, value), True)
            right = [self.check(net, place, some, worse) for worse in bent(value)]
            self.assertLess(5, right.count(False))

    def test_values_of_all_kinds(self):
        for value in wrong_values() + [nested("tuple", "some")]:
            for told in (value, ("some", value), ("never", value, value), ("never", ("", "a", "b", "c", "d"), value),
                         (value, FLAT), ("some", FLAT, value)):
                self.check(TWIG, "a", ("b", "t"), told)
                self.check(BALL, "t", ("a", "c"), told)

    def test_just_these_are_tied_with_the_further_place(self):
        hubs, roads = beside(BALL, "t", ("a", "c"))[1:]
        self.assertIs(shows_beside(BALL, "t", ("c", "a"), ("never", hubs, roads)), True)
        self.assertIs(self.check(BALL, "t", ("a", "b"), ("never", hubs, roads)), False)
        swapped = tuple(tuple({"": "t", "t": ""}.get(place, place) for place in road) for road in roads)
        hubs_swapped = tuple(sorted({"": "t", "t": ""}.get(place, place) for place in hubs))
        # With all others, it is the same net by other names.
        self.assertIs(self.check(BALL, "t", ("b", "d"), ("never", hubs_swapped, swapped)), True)
        self.assertIs(self.check(BALL, "t", ("a", "c"), ("never", hubs_swapped, swapped)), False)


class WithTies(Asked):
    def test_all_nets_of_up_to_six_places(self):
        for at, net in enumerate(up_to(6)):
            free = free_ties(net)
            for many in range(1, min(5, len(free)) + 1):
                for to, ties in enumerate(itertools.combinations(free, many)):
                    if (at + to) % (1 if len(net) < 6 else 2 if many < 2 else 29):
                        continue
                    whole = Net(text_of(net.places, net.ties + ties))
                    ties = tuple(tie[::-1] if (k + to) % 2 else tie for k, tie in enumerate(ties[::-1]))
                    drawings = drawings_by_roads(whole)
                    found = self.check_with_ties(net, ties, "some" if drawings else "never")
                    if drawings:
                        self.assertIn(found[1], drawings)
                        due = sorted(whole.ties, key=lambda tie: [net.places.index(place) for place in tie])
                        self.assertEqual(found[1].net.text, text_of(net.places, due))

    def test_nets_that_grow(self):
        for seed in range(8):
            net, lands = grown(seed, ties=20 + 2 * seed)
            inside = [tie for tie in free_ties(net) if any(set(tie) <= set(land) for land in lands)]
            for tie in inside[::5]:
                self.check_with_ties(net, (tie[::-1],), "some")
            for tie in free_ties(net)[::19]:
                word = meet(net, tie)[0]
                self.check_with_ties(net, (tie,), word)
            # A further tie in each one of five lands.
            chosen = []
            for land in lands:
                tie = (land[0], land[2])
                if not net.tied(*tie) and not any(set(tie) == set(other) for other in chosen) and len(chosen) < 5:
                    chosen.append(tie)
            if chosen:
                self.check_with_ties(net, tuple(chosen), "some")

    def test_most_ties(self):
        free = tuple(free_ties(FULL))
        for ties in (free[:1], free[1:3], free[:5]):
            self.refused(Full, 45, with_ties, FULL, ties)
            self.refused(Full, 45, shows_with_ties, FULL, ties, None)
        gone = [tie for tie in FULL.ties if "b" in tie and not set(tie) & {"a", "c"}]
        for fewer in range(1, 6):
            net = FULL
            for tie in gone[:fewer]:
                net = net - tie
            free = tuple(free_ties(net))
            self.same(len(net.ties), 45 - fewer)
            for many in range(1, 6):
                if many <= fewer:
                    word = "some" if drawings_by_roads(Net(text_of(net.places, net.ties + free[:many]))) else "never"
                    self.check_with_ties(net, free[:many], word)
                else:
                    self.refused(Full, 45, with_ties, net, free[:many])
                    self.refused(Full, 45, shows_with_ties, net, free[:many], ("never",))

    def test_all_at_once(self):
        net = net_of("a b c d e", "ab bc cd de ea")
        self.check_with_ties(net, (("a", "c"), ("b", "d"), ("c", "e"), ("d", "a")), "some")
        self.check_with_ties(net, (("a", "c"), ("b", "d"), ("c", "e"), ("d", "a"), ("e", "b")), "never")
        self.check_with_ties(LONG, tuple(("a", place) for place in "cdefg"), "some")
        self.check_with_ties(LONG, (("a", "i"), ("b", "j"), ("c", "k")), "never")

    def test_without_a_drawing(self):
        for net in (THREES, WHEEL, ODD):
            free = tuple(free_ties(net))
            for many in (1, 3, 5):
                self.check_with_ties(net, free[:many], "never")
        # FIVE has all ties: none is further.
        self.refused(BadTies, (("a", "b"),), with_ties, FIVE, (("a", "b"),))

    def test_refused(self):
        good = ("a", "c")
        wrong = [(), (good, good), (good, ("c", "a")), [good], (list(good),), ("ac",), good, "ac", (good, None),
                 (("a", "b"),), (("b", "a"),), (("a", "a"),), (good, ("b", "a")), (("a", "c", "b"),), (("a",),),
                 (("a", "q"),), (("a", ""),), (("", "a"),), ((good,),), {good: good}, (good, ("b", "d"), ("d", "b")),
                 (good, True), (True, good), (0,), (("a", ["c"]),), (("a", {"c": 1}),), (KITE,), (FLAT, good)]
        for value in wrong_values() + wrong:
            with self.subTest(value=value):
                self.refused_itself(BadTies, value, with_ties, SQUARE, value)
                self.refused_itself(BadTies, value, shows_with_ties, SQUARE, value, value)
        six = tuple(free_ties(LONG)[:6])
        self.refused_itself(BadTies, six, with_ties, LONG, six)
        self.check_with_ties(LONG, six[:5], "some")

    def test_bad_ties_ahead_of_full(self):
        free = tuple(free_ties(FULL))
        for value in (free[:6], free[:1] * 2, free[:1] + (free[0][::-1],), free[:4] + (("a", "b"),), (),
                      list(free[:1])):
            self.refused_itself(BadTies, value, with_ties, FULL, value)
            self.refused_itself(BadTies, value, shows_with_ties, FULL, value, None)

    def test_again(self):
        for net, ties in ((TWIG, (("b", "t"), ("d", "u"))), (BALL, (("t", "u"),)), (THREES, (("a", "b"),))):
            for other in (net, Net(net.text), Net(text_of(net.places, net.ties[::-1]))):
                self.assertEqual(with_ties(other, ties), with_ties(net, ties))
            self.assertEqual(with_ties(net, ties)[0], with_ties(net, ties[::-1])[0])

    def test_arguments_stay(self):
        before = (TWIG.text, TWIG.places, TWIG.ties)
        with_ties(TWIG, (("b", "t"), ("d", "u")))
        meet(TWIG, ("t", "u"))
        beside(TWIG, "a", ("b", "t"))
        self.same((TWIG.text, TWIG.places, TWIG.ties), before)


class ShowsWithTies(Asked):
    def check(self, net, ties, value):
        due = right_with_ties(net, ties, value)
        self.assertIs(shows_with_ties(net, ties, value), due, value)
        return due

    def test_drawings(self):
        for ties in ((("b", "d"),), (("d", "b"),)):
            for drawing in all_drawings(FOUR):
                self.assertIs(self.check(KITE, ties, ("some", drawing)), True)
            for net in (KITE, TWIG, net_of("b a c d", "ab bc cd da ac bd")):
                for drawing in all_drawings(net):
                    self.assertIs(self.check(KITE, ties, ("some", drawing)), False)

    def test_bent(self):
        for net, ties in ((KITE, (("b", "d"),)), (BALL, (("u", "t"),)), (FIVE - ("a", "c"), (("a", "c"),)),
                          (THREES, (("a", "b"), ("y", "x")))):
            value = with_ties(net, ties)
            self.assertIs(self.check(net, ties, value), True)
            right = [self.check(net, ties, worse) for worse in bent(value)]
            self.assertLess(5, right.count(False))

    def test_values_of_all_kinds(self):
        net = FIVE - ("a", "c")
        for value in wrong_values() + [nested("tuple", "some")]:
            for told in (value, ("some", value), ("never", value, value), ("never", FIVE.places, value), (value, FLAT),
                         ("never", value, FIVE.ties), ("never", FIVE.places, FIVE.ties, value)):
                self.check(net, (("c", "a"),), told)
        self.assertIs(self.check(net, (("c", "a"),), ("never", FIVE.places, FIVE.ties)), True)
        self.assertIs(self.check(net, (("c", "a"),), ("stuck", FIVE.places, FIVE.ties)), False)

    def test_further_ties_are_there(self):
        net = THREES - ("a", "x")
        ties = (("x", "a"),)
        self.assertIs(self.check(net, ties, ("never", THREES.places, THREES.ties)), True)
        self.assertIs(self.check(net, (("a", "b"),), ("never", THREES.places, THREES.ties)), False)
        self.assertIs(self.check(net, (("a", "b"), ("a", "x")), ("never", THREES.places, THREES.ties)), True)


if __name__ == "__main__":
    unittest.main()
