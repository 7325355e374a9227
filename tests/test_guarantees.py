"""Section 3: what stays when a drawing is turned about, and places have other names, or ties are added."""

import itertools
import random
import unittest

from alldrawn.flat import draw, shows_draw
from alldrawn.further import further, shows_further
from alldrawn.journals import read_journal
from alldrawn.looks import asks, left, sure
from alldrawn.nets import Net
from alldrawn.numbers import many, nth, number_of
from alldrawn.sides import as_land, shows_as_land, shows_sides, sides
from alldrawn.wishes import beside, meet, shows_beside, shows_meet, shows_with_ties, with_ties
from tests.helper import (BALL, CHAIN, Case, FOUR, HEAPS, KITE, LETTERS, NETS, OTHER_NAMES, SPROUT, TENT, TWIG,
                          all_drawings, drawings_by_roads, free_ties, grown, look_is_so, looks_of, net_of, own_ties,
                          renamed, rings_of, rings_once, text_of, things_off, told_by, tower, up_to, with_place_within)
from tests.test_journals import grown_sheet

SHOWS = {draw: shows_draw, sides: shows_sides, as_land: shows_as_land, meet: shows_meet, beside: shows_beside,
         with_ties: shows_with_ties, further: shows_further}
LOOSE = net_of("a b c d e f g", "ab bc cd de ef fa ac ad dg ga")
CHOSEN = (KITE, FOUR, TWIG, TENT, LOOSE)
TOWER = Net(text_of("abcdefgh", tower("bcdefgh", 2, 0, "a")[0]))


def questions(net, seed=0, most=40):
    """Some questions about a net: pairs of a function, and its arguments behind the net."""
    chance = random.Random(seed)
    found = [(meet, (some,)) for many in (2, 3) for some in itertools.combinations(net.places, many)]
    found += [(beside, (place, some)) for place in net.places for many in range(2, len(net[place]) - 1)
              for some in itertools.combinations(net[place], many)]
    free = free_ties(net)
    found += [(with_ties, (ties,)) for many in (1, 2, 3) for ties in itertools.combinations(free, many)
              if len(net.ties) + many <= 45]
    if drawings_by_roads(net):
        rings = rings_once(net) if len(net) < 8 else [land for land in draw(net)[1].lands]
        found += [(as_land, (ring,)) for ring in rings]
        found += [(sides, (ring, one, other)) for ring in rings
                  for one, other in itertools.combinations(things_off(net, ring), 2)]
        found += [(further, tie) for tie in free] * 2
    return [(draw, ())] + chance.sample(found, min(most, len(found)))


def first_of(function, net, asked):
    """The first word that a function tells, or the number of further."""
    return function(net, *asked)[0]


def other_nets():
    grown_nets = [grown(seed, places=9, ties=14 + seed)[0] for seed in range(6)]
    return list(CHOSEN) + [TOWER] + list(up_to(5)) + grown_nets


class AllDrawings(Case):
    """(a), (b): each answer that has drawings is as right with all of them turned about."""

    def test_mirror(self):
        turned = 0
        for net in other_nets():
            for function, asked in questions(net):
                found = function(net, *asked)
                about = tuple(~part if hasattr(part, "wheels") else part for part in found)
                turned += about != found
                self.assertIs(SHOWS[function](net, *asked, about), True)
        self.assertLess(100, turned)

    def test_what_is_open_is_shown_both_ways(self):
        for net in other_nets():
            for function, asked in questions(net, seed=1):
                found = function(net, *asked)
                if found[0] == "open":
                    self.assertIs(SHOWS[function](net, *asked, ("open", found[2], found[1])), False)
                    self.assertIs(SHOWS[function](net, *asked, ("open", found[1], found[1])), False)

    def test_each_drawing(self):
        for net in CHOSEN:
            drawings = all_drawings(net)
            for ring in rings_once(net):
                word = as_land(net, ring)[0]
                told = {ring[at:] + ring[:at] for at in range(len(ring))}
                told |= {one[::-1] for one in told}
                seen = {bool(told & set(drawing.lands)) for drawing in drawings}
                self.assertEqual(seen, {"always": {True}, "never": {False}, "open": {True, False}}[word])


    def test_looks_are_contrary(self):
        for net in (FOUR, TWIG, SPROUT, HEAPS):
            for number in range(0, many(net), 5):
                drawing = nth(net, number)
                for look in looks_of(net)[::4]:
                    self.assertIs(look_is_so(~drawing, look), not drawing.in_turn(*look))
                    self.assertIs((~drawing).in_turn(*look), drawing.in_turn(look[0], look[1], look[3], look[2]))

    def test_each_drawing_turned_about_is_one(self):
        for net in (KITE, FOUR, TWIG, SPROUT, HEAPS, BALL):
            numbers = [number_of(~nth(net, number)) for number in range(many(net))]
            self.assertEqual(sorted(numbers), list(range(many(net))))


class Names(Case):
    """(c): the first words stay, by other names and in another sequence."""

    def test_other_names(self):
        for net in other_nets():
            other = renamed(net, OTHER_NAMES)
            for function, asked in questions(net, seed=2):
                self.same(first_of(function, other, told_by(OTHER_NAMES, asked)), first_of(function, net, asked))
            self.same(many(other), many(net))

    def test_looks_by_other_names(self):
        for net in (TWIG, SPROUT, HEAPS, BALL):
            other = renamed(net, OTHER_NAMES)
            for look in looks_of(net)[::3]:
                self.same(left(other, (told_by(OTHER_NAMES, look),)), left(net, (look,)))
                self.same(sure(other, (told_by(OTHER_NAMES, look),), told_by(OTHER_NAMES, look))[0], "so")
                self.same(len(asks(other, (told_by(OTHER_NAMES, look),))), len(asks(net, (look,))))

    def test_sheets_by_other_names(self):
        for seed in range(10):
            sheet = grown_sheet(seed, 12, tuple(LETTERS[:4]))
            names = {**OTHER_NAMES, "zz": "o", "quux": "kk", "longname": "p"}
            lines = tuple(" ".join([line.split(" ")[0]] + [names[word] for word in line.split(" ")[1:]])
                          for line in sheet.journal)
            other = read_journal(tuple(names[name] for name in LETTERS[:4]), lines)
            self.same(other.net.places, tuple(names[place] for place in sheet.net.places))
            self.same(other.drawing.wheels, told_by(names, sheet.drawing.wheels))
            self.same(set(other.drawing.lands), set(told_by(names, sheet.drawing.lands)))

    def test_another_sequence(self):
        for at, net in enumerate(other_nets()):
            places = list(net.places)
            random.Random(at).shuffle(places)
            other = Net(text_of(places, net.ties[::-1]))
            for function, asked in questions(net, seed=3):
                self.same(first_of(function, other, asked), first_of(function, net, asked))
            self.same(many(other), many(net))

    def test_undrawable_too(self):
        for net in NETS:
            other = Net(text_of(net.places[::-1], net.ties))
            for function, asked in questions(net, seed=4, most=15):
                self.same(first_of(function, other, asked), first_of(function, net, asked))


class MoreTies(Case):
    """(d): with a further tie together stays together, apart stays apart, and never stays never."""

    def test_further_ties(self):
        words = []
        for net in list(CHOSEN) + up_to(5) + [CHAIN]:
            if not drawings_by_roads(net):
                continue
            for tie in free_ties(net)[:12]:
                if draw(net + tie)[0] == "stuck":
                    continue
                for function, asked in questions(net, seed=5, most=60):
                    if function == sides or function == as_land:
                        before, behind = function(net, *asked)[0], function(net + tie, *asked)[0]
                        if before in ("together", "apart", "never"):
                            words.append(before)
                            self.same(behind, before)
        for word in ("together", "apart", "never"):
            self.assertLess(9, words.count(word))


class PlaceWithinTie(Case):
    """(e): a new place within a tie changes no first word."""

    def ring_with(self, ring, tie, place):
        for at, end in enumerate(ring):
            if {end, ring[at - 1]} == set(tie):
                return ring[:at] + (place,) + ring[at:]
        return ring

    def test_all_ties(self):
        for net in other_nets():
            if len(net) > 8:
                continue
            for tie in net.ties[::2]:
                wider = with_place_within(net, tie)
                for function, asked in questions(net, seed=6, most=25):
                    # At one of its ends, beside would name neighbours.
                    if tie in asked or tie[::-1] in asked or function == beside and asked[0] in tie:
                        continue
                    told = asked
                    if function in (sides, as_land):
                        told = (self.ring_with(asked[0], tie, "zz"),) + asked[1:]
                    self.same(first_of(function, wider, told), first_of(function, net, asked))
                self.same(many(wider), many(net))

    def test_rings(self):
        for net in CHOSEN:
            for tie in net.ties:
                wider = with_place_within(net, tie)
                for ring in rings_once(net):
                    told = self.ring_with(ring, tie, "zz")
                    self.assertIn(told, rings_of(wider))
                    self.assertEqual(len(told) - len(ring), int(set(tie) in own_ties(ring)))
                    self.same(as_land(wider, told)[0], as_land(net, ring)[0])


if __name__ == "__main__":
    unittest.main()
