"""Section 8: sides of a ring, and rings that are lands."""

import itertools
import unittest

from alldrawn.drawings import Drawing
from alldrawn.errors import BadRing, NoDrawing, NotOff
from alldrawn.nets import Net
from alldrawn.rings import barring, hanging
from alldrawn.sides import as_land, shows_as_land, shows_sides, sides
from tests.helper import (BALL, CHAIN, Case, FIVE, FLAT, FOUR, FULL, KITE, LETTERS, LONG, ODD, SQUARE, TEN, TENT,
                          THREES, TRIANGLE, TWIG, WHEEL, all_drawings, bent, drawings_by_roads, grown, groups, lands_of,
                          nested, net_of, own_ties, rings_once, text_of, things_off, up_to, wrong_values)
from tests.test_rings import slow_bars, slow_hanging

AROUND = ("a", "b", "c", "d")
# Five parts hang on the ring a b c d e f: two chains, and one that bars none.
LOOSE = net_of("a b c d e f x y", "ab bc cd de ef fa ac bx xd df ye ya eb")


def numbers_of_sides(drawing, ring):
    """For each way along a tie off a ring, and each place off it, the number of its side."""
    lands = lands_of(drawing.net, drawing.wheels)
    beside = {way: number for number, land in enumerate(lands) for way in land}
    off = [tie for tie in drawing.net.ties if set(tie) not in own_ties(ring)]
    found = groups(range(len(lands)), [(beside[tie], beside[tie[::-1]]) for tie in off])
    assert len(found) == 2
    number = {way: int(beside[way] in found[1]) for tie in off for way in (tie, tie[::-1])}
    for place in drawing.net.places:
        if place not in ring:
            number[place] = number[place, drawing.net[place][0]]
    return number


def slow_holds(part, thing):
    places, feet = part
    ends = set(thing) if isinstance(thing, tuple) else {thing}
    return bool(ends & set(places)) if places else len(ends) == 2 and ends == set(feet)


def is_drawing_with(net, value, check):
    return type(value) is Drawing and value.net == net and check(value)


def right_sides(net, ring, one, other, value):
    """Whether a value is right, straight from section 8."""
    if type(value) is not tuple or not value or type(value[0]) is not str:
        return False

    def is_apart(drawing):
        number = numbers_of_sides(drawing, ring)
        return number[one] != number[other]

    if value[0] == "open" and len(value) == 3:
        return (is_drawing_with(net, value[1], lambda drawing: not is_apart(drawing))
                and is_drawing_with(net, value[2], is_apart))
    if value[0] not in ("together", "apart") or len(value) != 2:
        return False
    parts, chain = slow_hanging(net, ring), value[1]
    if type(chain) is not tuple or not chain or any(type(k) is not int or not 0 <= k < len(parts) for k in chain):
        return False
    if not all(i != j and slow_bars(ring, parts[i][1], parts[j][1]) for i, j in zip(chain, chain[1:])):
        return False
    if not slow_holds(parts[chain[0]], one) or not slow_holds(parts[chain[-1]], other):
        return False
    return len(chain) % 2 == (1 if value[0] == "together" else 0)


def ring_is_land(drawing, ring):
    """Whether a ring, told any way, is a land."""
    told = [ring[at:] + ring[:at] for at in range(len(ring))]
    return bool(set(told + [one[::-1] for one in told]) & set(drawing.lands))


def right_as_land(net, ring, value):
    """Whether a value is right, straight from section 8."""
    if type(value) is not tuple or not value or type(value[0]) is not str:
        return False
    parts = slow_hanging(net, ring)
    if value[0] == "always" and len(value) == 1:
        return len(parts) < 2
    if value[0] == "never" and len(value) == 3:
        i, j = value[1:]
        if type(i) is not int or type(j) is not int or not 0 <= i < j < len(parts):
            return False
        return slow_bars(ring, parts[i][1], parts[j][1])
    if value[0] != "open" or len(value) != 3:
        return False
    return (is_drawing_with(net, value[1], lambda drawing: ring_is_land(drawing, ring))
            and is_drawing_with(net, value[2], lambda drawing: not ring_is_land(drawing, ring)))


def rings_round(drawing):
    """Rings round two lands that have one tie in common, and no more."""
    found = []
    for one, other in drawing.net.ties:
        there, back = drawing.land(one, other), drawing.land(other, one)
        if len(set(there) & set(back)) == 2:
            there = there[there.index(other):] + there[:there.index(other)]
            back = back[back.index(one):] + back[:back.index(one)]
            found.append(there + back[1:-1])
    return found


def due_word(told):
    """The word for what is told of all drawings."""
    return {(True,): "apart", (False,): "together", (False, True): "open"}[tuple(sorted(set(told)))]


class Examples(Case):
    def test_sides(self):
        self.same(sides(TWIG, AROUND, "t", "u")[0], "together")
        self.same(sides(TWIG, AROUND, ("d", "b"), "t")[0], "apart")
        self.same(sides(TWIG, ("a", "t", "c", "u"), "b", "d")[0], "together")
        found = [shows_sides(TWIG, AROUND, "t", "u", value) for value in (
            ("together", (1, 0, 2)), ("together", (1, 2)), ("apart", (1, 0, 2)), ("together", (1, 0, 1, 0, 2)))]
        self.same(found, [True, False, False, True])

    def test_as_land(self):
        self.same(as_land(TWIG, ("a", "t", "c", "u")), ("always",))
        self.same(as_land(TWIG, ("a", "b", "d")), ("always",))
        self.same(as_land(KITE, AROUND), ("always",))
        self.same(as_land(TWIG, AROUND)[0], "never")
        self.same(shows_as_land(TWIG, AROUND, ("never", 0, 2)), True)


class Sides(Case):
    def check(self, net, ring, one, other, word):
        found = sides(net, ring, one, other)
        self.assertIs(type(found), tuple)
        self.same(found[0], word)
        self.assertIs(right_sides(net, ring, one, other, found), True)
        self.assertIs(shows_sides(net, ring, one, other, found), True)
        return found

    def check_pairs(self, net, ring, pairs):
        told = [numbers_of_sides(drawing, ring) for drawing in all_drawings(net)]
        for one, other in pairs:
            word = due_word([number[one] != number[other] for number in told])
            found = self.check(net, ring, one, other, word)
            if word == "open":
                self.assertIn(found[1], all_drawings(net))
                self.assertIn(found[2], all_drawings(net))

    def test_all_things_of_all_nets_of_up_to_five_places(self):
        for net in up_to(5):
            for ring in rings_once(net):
                with self.subTest(net=net.text, ring=ring):
                    things = things_off(net, ring)
                    if all_drawings(net):
                        self.check_pairs(net, ring, itertools.combinations_with_replacement(things, 2))
                    elif things:
                        self.refused(NoDrawing, None, sides, net, ring, things[0], things[-1])

    def test_all_rings_of_all_nets_of_six_places(self):
        for at, net in enumerate(up_to(6)[14:]):
            for to, ring in enumerate(rings_once(net)):
                with self.subTest(net=net.text, ring=ring):
                    # One thing that each part holds, not always the first one; told from another place on.
                    held = [[thing for thing in things_off(net, ring) if slow_holds(part, thing)]
                            for part in slow_hanging(net, ring)]
                    things = [some[(at + to) % len(some)] for some in held]
                    ring = ring[to % len(ring):] + ring[:to % len(ring)]
                    if all_drawings(net):
                        self.check_pairs(net, ring, itertools.product(things, things))
                    elif things and to % 5 == 0:
                        self.refused(NoDrawing, None, sides, net, ring, things[0], things[-1])

    def test_many_drawings(self):
        for net in (LOOSE, TENT, net_of("a b c d e f g", "ac ad ae af ag bc bd be bf bg")):
            for ring in rings_once(net)[::3]:
                told = [numbers_of_sides(drawing, ring) for drawing in drawings_by_roads(net)]
                for one, other in itertools.combinations(things_off(net, ring)[::2], 2):
                    self.check(net, ring, one, other, due_word([number[one] != number[other] for number in told]))

    def test_nets_that_grow(self):
        words = []
        for seed in (0, 1, 4, 5, 6, 7, 8, 9):
            net, lands = grown(seed, ties=20 + 2 * seed)
            drawings = drawings_by_roads(net)
            for at, ring in enumerate(sorted(set(lands))[:2] + rings_round(drawings[0])[::4]):
                things = things_off(net, ring)
                told = [numbers_of_sides(drawing, ring) for drawing in drawings]
                for one, other in list(itertools.product(things, things))[at::len(things) ** 2 // 7]:
                    words.append(due_word([number[one] != number[other] for number in told]))
                    self.check(net, ring, one, other, words[-1])
        self.assertEqual(set(words), {"together", "apart", "open"})

    def test_one_hanging_part(self):
        self.same(sides(KITE, ("a", "b", "c"), "d", ("d", "a")), ("together", (0,)))
        self.same(sides(KITE, AROUND, ("a", "c"), ("c", "a")), ("together", (0,)))
        self.same(sides(FOUR, ("a", "b", "c"), ("a", "d"), ("d", "b")), ("together", (0,)))

    def test_parts_that_bar_none(self):
        net = net_of("a b c d e f", "ab bc cd da ea eb fc fd")
        for one, other in itertools.product(("e", ("e", "a")), ("f", ("d", "f"))):
            self.check(net, AROUND, one, other, "open")
            self.check(net, AROUND, other, one, "open")

    def test_chains(self):
        self.same(hanging(LOOSE, tuple("abcdef")), (((), ("a", "c")), ((), ("b", "e")), ((), ("d", "f")),
                                                    (("x",), ("b", "d")), (("y",), ("a", "e"))))
        self.same(barring(LOOSE, tuple("abcdef")), ((0, 1), (0, 3), (1, 2), (2, 4)))
        ring = tuple("abcdef")
        self.same(self.check(LOOSE, ring, "y", "x", "together"), ("together", (4, 2, 1, 0, 3)))
        self.same(self.check(LOOSE, ring, ("f", "d"), ("x", "d"), "apart"), ("apart", (2, 1, 0, 3)))
        self.same(self.check(LOOSE, ring, ("c", "a"), ("f", "d"), "together"), ("together", (0, 1, 2)))

    def test_long_chains(self):
        ring = LONG.places
        over = [(LETTERS[at], LETTERS[at + 2]) for at in range(14)]
        for i, j in itertools.combinations_with_replacement(range(14), 2):
            if (i + j) % 3 == 0:
                word, chain = self.check(CHAIN, ring, over[i], over[j][::-1], "apart" if (j - i) % 2 else "together")
                self.same(chain, tuple(range(i, j + 1)))
        word, chain = self.check(CHAIN, ring, over[13], over[0], "apart")
        self.same(chain, tuple(range(13, -1, -1)))
        self.assertIs(shows_sides(CHAIN, ring, over[0], over[2], ("together", (0, 1, 2) * 1 + (1, 2) * 9)), True)
        self.refused(NoDrawing, None, sides, ODD, ring, over[0], over[1])

    def test_chains_in_two_heaps(self):
        net = Net(text_of(LETTERS[:12], [(LETTERS[at - 1], LETTERS[at]) for at in range(1, 12)] + [("a", "l")] + [
            tuple(tie) for tie in "ac bd ce gi hj ik".split()]))
        ring = net.places
        for one, other in itertools.product(("ac", "bd", "ce"), ("gi", "hj", "ik")):
            self.check(net, ring, tuple(one), tuple(other), "open")
        self.check(net, ring, ("a", "c"), ("e", "c"), "together")
        self.check(net, ring, ("i", "k"), ("h", "j"), "apart")

    def test_ring_told_otherwise(self):
        for net in (TWIG, TENT, LOOSE):
            for ring in rings_once(net)[::4]:
                things = things_off(net, ring)[::3]
                for one, other in itertools.combinations(things, 2):
                    word = sides(net, ring, one, other)[0]
                    for at in range(len(ring)):
                        told = ring[at:] + ring[:at]
                        self.same(sides(net, told, one, other)[0], word)
                        self.same(sides(net, told[::-1], other, one)[0], word)

    def test_again(self):
        for other in (TWIG, Net(TWIG.text), Net(text_of(TWIG.places, TWIG.ties[::-1]))):
            self.assertEqual(sides(other, AROUND, "t", "u"), sides(TWIG, AROUND, "t", "u"))
            self.assertEqual(as_land(other, AROUND), as_land(TWIG, AROUND))
            ring = ("a", "t", "c", "b")
            self.assertEqual(sides(other, ring, "u", "d"), sides(TWIG, ring, "u", "d"))
            self.assertEqual(as_land(other, ring), as_land(TWIG, ring))


class SidesRefused(Case):
    def test_ring_first(self):
        for value in wrong_values() + [list(AROUND), "abcd", ("a", "b"), ("a", "b", "d"), ("a", "c", "b", "d")]:
            for net in (KITE, FIVE):
                if net == FIVE and value in (("a", "b", "d"), ("a", "c", "b", "d")):
                    continue
                with self.subTest(value=value):
                    self.refused_itself(BadRing, value, sides, net, value, "a", "a")
                    self.refused_itself(BadRing, value, shows_sides, net, value, value, value, None)
                    self.refused_itself(BadRing, value, as_land, net, value)
                    self.refused_itself(BadRing, value, shows_as_land, net, value, value)

    def test_things(self):
        on = ["a", ("a", "b"), ("b", "a"), ("d", "a"), ("b", "d"), ("a", "a"), ["a", "c"], "ac", (("a", "c"),), ""]
        for value in wrong_values() + on:
            with self.subTest(value=value):
                good = ("a", "c")
                self.refused_itself(NotOff, value, sides, KITE, AROUND, value, good)
                self.refused_itself(NotOff, value, sides, KITE, AROUND, good, value)
                self.refused_itself(NotOff, value, sides, KITE, AROUND, value, "b")
                self.refused_itself(NotOff, value, shows_sides, KITE, AROUND, value, "b", ("together", (0,)))
                self.refused_itself(NotOff, value, shows_sides, KITE, AROUND, good, value, ("together", (0,)))

    def test_no_drawing_behind_the_others(self):
        ring = ("a", "b", "c", "d", "e")
        self.refused(NoDrawing, None, sides, FIVE, ring, ("a", "c"), ("d", "b"))
        self.refused(NoDrawing, None, shows_sides, FIVE, ring, ("a", "c"), ("d", "b"), ("apart", (0, 2)))
        self.refused(NotOff, "b", sides, FIVE, ring, ("a", "c"), "b")
        self.refused(NotOff, ("a", "b"), shows_sides, FIVE, ring, ("a", "b"), "b", None)
        self.refused(BadRing, ("a", "b"), sides, FIVE, ("a", "b"), "a", "b")
        for net in (FIVE, THREES, WHEEL - ("b", "d") + ("t", "u") + ("u", "b") + ("b", "d"), ODD, FULL):
            ring = rings_once(net)[0] if len(net) < 10 else net.places
            self.refused(NoDrawing, None, as_land, net, ring)
            self.refused(NoDrawing, None, shows_as_land, net, ring, ("never", 0, 1))
            self.refused(NoDrawing, None, shows_as_land, net, ring, None)
            self.refused(BadRing, (), shows_as_land, net, (), ("never", 0, 1))
        self.refused(NoDrawing, None, as_land, TEN, TEN.places)


class ShowsSides(Case):
    def check(self, net, ring, one, other, value):
        due = right_sides(net, ring, one, other, value)
        self.assertIs(shows_sides(net, ring, one, other, value), due, value)
        return due

    def test_bent(self):
        ring = tuple("abcdef")
        for net, around, one, other in (
                (TWIG, AROUND, "t", "u"), (TWIG, AROUND, ("d", "b"), ("t", "c")), (LOOSE, ring, "y", "x"),
                (LOOSE, ring, ("f", "d"), ("x", "d")), (KITE, AROUND, ("a", "c"), ("c", "a")),
                (TWIG, ("a", "t", "c", "b"), "u", "d"), (FOUR, ("a", "b", "c"), "d", ("d", "a"))):
            value = sides(net, around, one, other)
            self.assertIs(self.check(net, around, one, other, value), True)
            right = [self.check(net, around, one, other, worse) for worse in bent(value)]
            self.assertLess(20, right.count(False))

    def test_all_chains(self):
        for one, other in itertools.combinations_with_replacement(("t", ("a", "u"), ("b", "d")), 2):
            for word in ("together", "apart", "open"):
                for many in range(5):
                    for chain in itertools.product(range(-1, 4), repeat=many):
                        self.check(TWIG, AROUND, one, other, (word, chain))

    def test_words_and_kinds(self):
        for value in (("together", (True, 0, 2)), ("together", [1, 0, 2]), ["together", (1, 0, 2)],
                      ("together", (1, False, 2)), ("together", ("1", 0, 2)), ("together", (1, (0,), 2)),
                      ("together", 1), ("together", "102"), ("together",), ("together", (1, 0, 2), ()),
                      ("together", None), ("together", {1: 0}), (("together",), (1, 0, 2)), ("open", (1, 0, 2)),
                      ("together", (1, 0, -1)), ("together", (-2, 0, 2)), ("together", (1, 0, 2, 0)),
                      ("together", (10 ** 39, 0, 2)), ("together", ())):
            self.assertIs(self.check(TWIG, AROUND, "t", "u", value), False)
        for value in wrong_values() + [nested("tuple", "together")]:
            for told in (value, ("together", value), ("apart", value), ("together", (value,)),
                         ("together", (1, value, 2)), ("open", value, value), ("open", FLAT, value),
                         (value, (1, 0, 2))):
                self.assertIs(self.check(TWIG, AROUND, "t", "u", told), (told == ("together", (1, value, 2))
                                                                         and type(value) is int and value == 0))

    def test_drawings(self):
        ring = ("a", "t", "c", "b")
        other = Net("places b a c d t u" + TWIG.text[len("places a b c d t u"):])
        drawings = all_drawings(TWIG) + all_drawings(other) + [FLAT]
        right = 0
        for one, two in itertools.product(drawings, repeat=2):
            right += self.check(TWIG, ring, "u", "d", ("open", one, two))
            self.assertIs(shows_sides(TWIG, ring, "u", "u", ("open", one, two)), False)
        # Of four drawings two are of either sort.
        self.assertEqual(right, 4)

    def test_right_by_itself(self):
        # No chain is looked for: two drawings are enough; and none is right where there is none.
        self.assertIs(self.check(TWIG, ("a", "t", "c", "u"), "b", "d", ("open", *all_drawings(TWIG)[:2])), False)


class AsLand(Case):
    def check(self, net, ring, word):
        found = as_land(net, ring)
        self.assertIs(type(found), tuple)
        self.same(found[0], word)
        self.assertIs(right_as_land(net, ring, found), True)
        self.assertIs(shows_as_land(net, ring, found), True)
        return found

    def test_all_rings_of_all_nets_of_up_to_six_places(self):
        words = {True: "always", False: "never", None: "open"}
        for net in up_to(6):
            drawings = all_drawings(net)
            for to, ring in enumerate(rings_once(net)):
                with self.subTest(net=net.text, ring=ring):
                    told = ring[to % len(ring):] + ring[:to % len(ring)]
                    told = told[::-1] if to % 2 else told
                    if drawings:
                        seen = {ring_is_land(drawing, ring) for drawing in drawings}
                        found = self.check(net, told, words[seen.pop() if len(seen) == 1 else None])
                        for drawing in found[1:] if found[0] == "open" else ():
                            self.assertIn(drawing, drawings)
                        self.assertIs(shows_as_land(net, told, ("always",)), found[0] == "always")
                    elif to % 5 == 0:
                        self.refused(NoDrawing, None, as_land, net, told)

    def test_no_hanging_part_and_one_and_many(self):
        self.same(as_land(TRIANGLE, ("c", "b", "a")), ("always",))
        self.same(as_land(LONG, LONG.places), ("always",))
        self.same(as_land(SQUARE, AROUND), ("always",))
        self.same(as_land(FOUR, ("b", "a", "d")), ("always",))
        self.check(CHAIN, LONG.places, "never")
        self.check(net_of("a b c d e f", "ab bc cd da ea eb fc fd"), AROUND, "open")
        many = net_of("a b c d e f g h i j", "ab bc cd de ea fa fb gb gc hc hd id ie je ja")
        self.check(many, tuple("abcde"), "open")
        self.check(BALL, AROUND, "never")
        # Two parts with the same two feet do not bar one another.
        net = net_of("a b c d t u", "ab bc cd da ta tc ua uc")
        self.check(net, AROUND, "open")
        self.check(net, ("a", "t", "c", "u"), "open")

    def test_nets_that_grow(self):
        for seed in range(8):
            net, lands = grown(seed, ties=18 + 3 * seed)
            for land in lands:
                self.assertIn(as_land(net, land)[0], ("always", "open"))
                self.assertIs(shows_as_land(net, land, as_land(net, land)), True)

    def test_bent(self):
        seen = []
        for net, ring in ((TWIG, AROUND), (TWIG, ("a", "t", "c", "b")), (KITE, ("a", "b", "c")), (BALL, AROUND),
                          (TRIANGLE, ("a", "b", "c")), (LOOSE, tuple("abcdef"))):
            value = as_land(net, ring)
            seen.append(value[0])
            for worse in bent(value):
                self.assertIs(shows_as_land(net, ring, worse), right_as_land(net, ring, worse), worse)
        self.assertEqual(set(seen), {"always", "never", "open"})

    def test_all_numbers(self):
        pairs = barring(LOOSE, tuple("abcdef"))
        for i, j in itertools.product(range(-6, 7), repeat=2):
            self.assertIs(shows_as_land(LOOSE, tuple("abcdef"), ("never", i, j)), (i, j) in pairs)
        for value in (("never", False, True), ("never", 0, True), ("never", False, 1), ("never", (0, 1)), ("never", 0),
                      ["never", 0, 1], ("never", 0, 1, 3), ("never",), ("always",), ("never", 1, 0), ("never", "0", 1)):
            self.assertIs(shows_as_land(LOOSE, tuple("abcdef"), value), False)
        self.assertIs(shows_as_land(LOOSE, tuple("abcdef"), ("never", 0, 1)), True)

    def test_values_of_all_kinds(self):
        for value in wrong_values():
            for told in (value, ("always", value), ("never", value, value), ("never", 0, value), ("never", value, 1),
                         ("open", value, value), ("open", FLAT, value), (value,), (value, 0, 1)):
                for net, ring in ((KITE, AROUND), (TWIG, AROUND), (TWIG, ("a", "t", "c", "b"))):
                    self.assertIs(shows_as_land(net, ring, told), right_as_land(net, ring, told), told)

    def test_drawings(self):
        ring = ("a", "t", "c", "u")
        net = TWIG - ("b", "d")
        drawings = all_drawings(net) + all_drawings(TWIG)[:1] + [FLAT]
        right = 0
        for one, two in itertools.product(drawings, repeat=2):
            value = ("open", one, two)
            due = right_as_land(net, ring, value)
            self.assertIs(shows_as_land(net, ring, value), due)
            right += due
        self.assertLess(3, right)


if __name__ == "__main__":
    unittest.main()
