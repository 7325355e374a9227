"""Section 5: rings, and what hangs on them."""

import itertools
import unittest

from alldrawn.errors import BadRing
from alldrawn.nets import Net
from alldrawn.rings import barring, hanging
from tests.helper import (BALL, Case, FIVE, FLAT, FOUR, KITE, LONG, NETS, SQUARE, TEN, TENT, THREES, TRIANGLE, TWIG,
                          WHEEL, net_of, own_ties, rings_of, rings_once, text_of, wrong_values)

AROUND = ("a", "b", "c", "d")


def slow_hanging(net, ring):
    """The hanging parts, by joining ties that share a place off the ring."""
    parts = [({tie}, {place for place in tie if place not in ring})
             for tie in net.ties if set(tie) not in own_ties(ring)]
    for place in net.places:
        if place not in ring:
            joined = [part for part in parts if place in part[1]]
            parts = [part for part in parts if place not in part[1]]
            parts.append((set().union(*[part[0] for part in joined]), set().union(*[part[1] for part in joined])))
    told = []
    for ties, places in parts:
        feet = {place for tie in ties for place in tie} - places
        told.append((tuple(sorted(places, key=net.places.index)), tuple(sorted(feet, key=net.places.index))))
    return tuple(sorted(told))


def slow_bars(ring, feet, others):
    """Whether two parts with these feet bar one another, by trying all four places."""
    if len(set(feet) & set(others)) >= 3:
        return True
    for four in itertools.combinations(ring, 4):
        for p, q, r, s in (four, four[1:] + four[:1]):
            if p in feet and r in feet and q in others and s in others:
                return True
    return False


def slow_barring(net, ring):
    parts = slow_hanging(net, ring)
    return tuple((i, j) for i, j in itertools.combinations(range(len(parts)), 2)
                 if slow_bars(ring, parts[i][1], parts[j][1]))


class Examples(Case):
    def test_wheel(self):
        self.same(hanging(WHEEL, AROUND), (((), ("b", "d")), (("t",), ("a", "b", "c", "d")), (("u",), ("a", "c"))))
        self.same(barring(WHEEL, AROUND), ((0, 1), (0, 2), (1, 2)))

    def test_kite(self):
        self.same(hanging(KITE, ("c", "b", "a")), ((("d",), ("a", "c")),))
        self.same(barring(KITE, AROUND), ())
        self.same(hanging(KITE, AROUND), (((), ("a", "c")),))


class NoRings(Case):
    def refused_by_both(self, value, net=KITE):
        self.refused_itself(BadRing, value, hanging, net, value)
        self.refused_itself(BadRing, value, barring, net, value)

    def test_values_of_all_kinds(self):
        for value in wrong_values():
            with self.subTest(value=value):
                self.refused_by_both(value)

    def test_tuples_that_are_no_rings(self):
        for value in ((), ("a",), ("a", "b"), ("a", "c"), ("a", "b", "d"), ("b", "c", "d"), ("a", "b", "c", "a"),
                      ("a", "b", "c", "b"), ("a", "c", "b", "d"), ("a", "b", "c", "d", "a"), ("a", "b", "e"),
                      ("a", "b", None), ("a", "b", True), ("a", "b", 0), ("a", "b", ["c"]), ("a", "b", ("c",)),
                      ("a", "b", {"c": "c"}), ("a", "b", {}), ("a", "b", FLAT), ("a", "b", ""), (("a", "b", "c"),)):
            with self.subTest(value=value):
                self.refused_by_both(value)

    def test_last_and_first_must_be_tied(self):
        self.refused_by_both(("a", "b", "c"), SQUARE)
        self.refused_by_both(("b", "c", "d"), SQUARE)
        self.refused_by_both(tuple("abcdefghijklmno"), LONG)

    def test_other_kinds_that_look_like_rings(self):
        for value in (list(AROUND), "abcd", {place: place for place in AROUND}, (list(AROUND),), "a b c d"):
            with self.subTest(value=value):
                self.refused_by_both(value)

    def test_all_tuples_of_places(self):
        for net in (SQUARE, KITE, FIVE):
            rings = rings_of(net)
            for many in range(len(net) + 1):
                for some in itertools.product(net.places, repeat=many):
                    if some in rings:
                        hanging(net, some)
                    else:
                        self.refused_itself(BadRing, some, hanging, net, some)


class Hanging(Case):
    def test_nothing_hangs(self):
        self.same(hanging(TRIANGLE, ("a", "b", "c")), ())
        self.same(barring(TRIANGLE, ("b", "a", "c")), ())
        self.same(hanging(LONG, LONG.places), ())

    def test_with_two_feet_with_three_with_all(self):
        self.same(hanging(TWIG, AROUND), (((), ("b", "d")), (("t",), ("a", "c")), (("u",), ("a", "c"))))
        self.same(barring(TWIG, AROUND), ((0, 1), (0, 2)))
        self.same(hanging(FOUR, ("a", "b", "c")), ((("d",), ("a", "b", "c")),))
        self.same(hanging(BALL, AROUND), ((("t",), AROUND), (("u",), AROUND)))
        self.same(barring(BALL, AROUND), ((0, 1),))

    def test_three_feet_in_common(self):
        net = net_of("a b c t u", "ab bc ca ta tb tc ua ub uc")
        self.same(hanging(net, ("a", "b", "c")), ((("t",), ("a", "b", "c")), (("u",), ("a", "b", "c"))))
        self.same(barring(net, ("a", "b", "c")), ((0, 1),))

    def test_two_feet_in_common(self):
        net = net_of("a b c t u", "ab bc ca ta tb tc ua ub")
        self.same(barring(net, ("a", "b", "c")), ())
        net = net_of("a b c d t u", "ab bc cd da ta tb ua ub")
        self.same(barring(net, AROUND), ())
        net = net_of("a b c d t u", "ab bc cd da ta tc ua uc")
        self.same(barring(net, AROUND), ())

    def test_feet_in_turn(self):
        net = net_of("a b c d t u", "ab bc cd da ta tc ub ud")
        self.same(barring(net, AROUND), ((0, 1),))
        net = net_of("a b c d t u", "ab bc cd da ta tb uc ud")
        self.same(barring(net, AROUND), ())
        # Two feet in common, and the others in turn with them.
        net = net_of("a b c d t u", "ab bc cd da ta tb tc ua uc ud")
        self.same(barring(net, AROUND), ())
        net = net_of("a b c d t u", "ab bc cd da ta tb tc ub uc ud")
        self.same(barring(net, AROUND), ((0, 1),))

    def test_pieces_of_more_places(self):
        net = net_of("f e d c b a", "ab bc cd de ef fa be")
        self.same(hanging(net, ("a", "b", "e", "f")), ((("d", "c"), ("e", "b")),))
        self.same(hanging(net, ("a", "b", "c", "d", "e", "f")), (((), ("e", "b")),))

    def test_ascending_as_python_sorts_but_each_in_sequence(self):
        net = net_of("d c b a u t", "ab bc cd da ta tc ua uc bd ut")
        self.same(hanging(net, AROUND), (((), ("d", "b")), (("u", "t"), ("c", "a"))))
        net = net - ("t", "u")
        self.same(hanging(net, AROUND), (((), ("d", "b")), (("t",), ("c", "a")), (("u",), ("c", "a"))))
        net = net_of("d c b a e", "ab bc cd de ea ac bd ce")
        self.same(hanging(net, ("a", "b", "c", "d", "e")), (((), ("c", "a")), ((), ("c", "e")), ((), ("d", "b"))))

    def test_told_from_another_place_on_and_the_other_way_round(self):
        for net in (KITE, WHEEL, TWIG, BALL, THREES, TENT):
            for ring in rings_once(net):
                parts, pairs = hanging(net, ring), barring(net, ring)
                for at in range(len(ring)):
                    turned = ring[at:] + ring[:at]
                    for told in (turned, turned[::-1]):
                        self.same(hanging(net, told), parts)
                        self.same(barring(net, told), pairs)

    def test_all_rings(self):
        for net in NETS:
            for ring in rings_once(net):
                with self.subTest(net=net.text, ring=ring):
                    self.same(hanging(net, ring), slow_hanging(net, ring))
                    self.same(barring(net, ring), slow_barring(net, ring))

    def test_all_chords(self):
        ring = TEN.places
        self.same(hanging(TEN, ring), slow_hanging(TEN, ring))
        self.same(len(hanging(TEN, ring)), 35)
        self.same(barring(TEN, ring), slow_barring(TEN, ring))
        # Each four places round the ring are the ends of two chords in turn: 210 fours of ten.
        self.same(len(barring(TEN, ring)), 210)

    def test_arguments_stay(self):
        before = (WHEEL.text, WHEEL.places, WHEEL.ties)
        self.same(hanging(WHEEL, AROUND), hanging(WHEEL, AROUND))
        self.same(barring(WHEEL, AROUND), barring(WHEEL, AROUND))
        self.same((WHEEL.text, WHEEL.places, WHEEL.ties), before)


class Names(Case):
    """Guarantee (c), as far as it speaks of rings."""

    def test_other_names(self):
        names = dict(zip("abcdtu", ("zz", "y", "xylophon", "q", "b", "a")))
        net = Net(text_of([names[place] for place in WHEEL.places],
                          [(names[one], names[other]) for one, other in WHEEL.ties]))
        for ring in rings_once(WHEEL):
            told = tuple(names[place] for place in ring)
            due = sorted((tuple(names[place] for place in places), tuple(names[foot] for foot in feet))
                         for places, feet in hanging(WHEEL, ring))
            self.same(hanging(net, told), tuple(due))
            self.same(len(barring(net, told)), len(barring(WHEEL, ring)))

    def test_another_sequence(self):
        for places in (WHEEL.places[::-1], ("t", "b", "u", "a", "d", "c")):
            net = Net(text_of(places, WHEEL.ties))
            for ring in rings_once(WHEEL):
                parts, due = hanging(net, ring), hanging(WHEEL, ring)
                self.assertEqual({sets(part) for part in parts}, {sets(part) for part in due})
                self.same(len(parts), len(due))
                bars = {frozenset((sets(parts[i]), sets(parts[j]))) for i, j in barring(net, ring)}
                self.assertEqual(bars, {frozenset((sets(due[i]), sets(due[j]))) for i, j in barring(WHEEL, ring)})


def sets(part):
    """A hanging part, without the sequence of its places."""
    return (frozenset(part[0]), frozenset(part[1]))


if __name__ == "__main__":
    unittest.main()
