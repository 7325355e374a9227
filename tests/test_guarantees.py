"""Section 3: what stays when a drawing is turned about, and places have other names, or ties are added."""

import itertools
import random
import unittest

from alldrawn.flat import draw, shows_draw
from alldrawn.nets import Net
from alldrawn.sides import as_land, shows_as_land, shows_sides, sides
from alldrawn.wishes import beside, meet, shows_beside, shows_meet, shows_with_ties, with_ties
from tests.helper import (CHAIN, Case, FOUR, KITE, NETS, OTHER_NAMES, TENT, TWIG, all_drawings, drawings_by_roads,
                          free_ties, grown, net_of, own_ties, renamed, rings_of, rings_once, text_of, things_off,
                          told_by, up_to, with_place_within)

SHOWS = {draw: shows_draw, sides: shows_sides, as_land: shows_as_land, meet: shows_meet, beside: shows_beside,
         with_ties: shows_with_ties}
LOOSE = net_of("a b c d e f g", "ab bc cd de ef fa ac ad dg ga")
CHOSEN = (KITE, FOUR, TWIG, TENT, LOOSE)


def questions(net, seed=0, most=40):
    """Some questions about a net: pairs of a function, and its arguments behind the net."""
    chance = random.Random(seed)
    found = [(meet, (some,)) for many in (2, 3) for some in itertools.combinations(net.places, many)]
    found += [(beside, (place, some)) for place in net.places for many in range(2, len(net[place]) - 1)
              for some in itertools.combinations(net[place], many)]
    free = free_ties(net)
    found += [(with_ties, (ties,)) for many in (1, 2, 3) for ties in itertools.combinations(free, many)
              if len(net.ties) + many <= 45]
    if drawings_by_roads(net):
        rings = rings_once(net) if len(net) < 8 else [land for land in draw(net)[1].lands]
        found += [(as_land, (ring,)) for ring in rings]
        found += [(sides, (ring, one, other)) for ring in rings
                  for one, other in itertools.combinations(things_off(net, ring), 2)]
    return [(draw, ())] + chance.sample(found, min(most, len(found)))


def other_nets():
    return list(CHOSEN) + [net for net in up_to(5)] + [grown(seed, places=9, ties=14 + seed)[0] for seed in range(6)]


class AllDrawings(Case):
    """(a), (b): each answer that has drawings is as right with all of them turned about."""

    def test_mirror(self):
        turned = 0
        for net in other_nets():
            for function, asked in questions(net):
                found = function(net, *asked)
                about = tuple(~part if hasattr(part, "wheels") else part for part in found)
                turned += about != found
                self.assertIs(SHOWS[function](net, *asked, about), True)
        self.assertLess(100, turned)

    def test_what_is_open_is_shown_both_ways(self):
        for net in other_nets():
            for function, asked in questions(net, seed=1):
                found = function(net, *asked)
                if found[0] == "open":
                    self.assertIs(SHOWS[function](net, *asked, ("open", found[2], found[1])), False)
                    self.assertIs(SHOWS[function](net, *asked, ("open", found[1], found[1])), False)

    def test_each_drawing(self):
        for net in CHOSEN:
            drawings = all_drawings(net)
            for ring in rings_once(net):
                word = as_land(net, ring)[0]
                told = {ring[at:] + ring[:at] for at in range(len(ring))}
                told |= {one[::-1] for one in told}
                seen = {bool(told & set(drawing.lands)) for drawing in drawings}
                self.assertEqual(seen, {"always": {True}, "never": {False}, "open": {True, False}}[word])


class Names(Case):
    """(c): the first words stay, by other names and in another sequence."""

    def test_other_names(self):
        for net in other_nets():
            other = renamed(net, OTHER_NAMES)
            for function, asked in questions(net, seed=2):
                self.same(function(other, *told_by(OTHER_NAMES, asked))[0], function(net, *asked)[0])

    def test_another_sequence(self):
        for at, net in enumerate(other_nets()):
            places = list(net.places)
            random.Random(at).shuffle(places)
            other = Net(text_of(places, net.ties[::-1]))
            for function, asked in questions(net, seed=3):
                self.same(function(other, *asked)[0], function(net, *asked)[0])

    def test_undrawable_too(self):
        for net in NETS:
            other = Net(text_of(net.places[::-1], net.ties))
            for function, asked in questions(net, seed=4, most=15):
                self.same(function(other, *asked)[0], function(net, *asked)[0])


class MoreTies(Case):
    """(d): with a further tie together stays together, apart stays apart, and never stays never."""

    def test_further_ties(self):
        words = []
        for net in list(CHOSEN) + up_to(5) + [CHAIN]:
            if not drawings_by_roads(net):
                continue
            for tie in free_ties(net)[:12]:
                if draw(net + tie)[0] == "stuck":
                    continue
                for function, asked in questions(net, seed=5, most=60):
                    if function == sides or function == as_land:
                        before, behind = function(net, *asked)[0], function(net + tie, *asked)[0]
                        if before in ("together", "apart", "never"):
                            words.append(before)
                            self.same(behind, before)
        for word in ("together", "apart", "never"):
            self.assertLess(9, words.count(word))


class PlaceWithinTie(Case):
    """(e): a new place within a tie changes no first word."""

    def ring_with(self, ring, tie, place):
        for at, end in enumerate(ring):
            if {end, ring[at - 1]} == set(tie):
                return ring[:at] + (place,) + ring[at:]
        return ring

    def test_all_ties(self):
        for net in other_nets():
            if len(net) > 8:
                continue
            for tie in net.ties[::2]:
                wider = with_place_within(net, tie)
                for function, asked in questions(net, seed=6, most=25):
                    # At one of its ends, beside would name neighbours.
                    if tie in asked or tie[::-1] in asked or function == beside and asked[0] in tie:
                        continue
                    told = asked
                    if function in (sides, as_land):
                        told = (self.ring_with(asked[0], tie, "zz"),) + asked[1:]
                    self.same(function(wider, *told)[0], function(net, *asked)[0])

    def test_rings(self):
        for net in CHOSEN:
            for tie in net.ties:
                wider = with_place_within(net, tie)
                for ring in rings_once(net):
                    told = self.ring_with(ring, tie, "zz")
                    self.assertIn(told, rings_of(wider))
                    self.assertEqual(len(told) - len(ring), int(set(tie) in own_ties(ring)))
                    self.same(as_land(wider, told)[0], as_land(net, ring)[0])


if __name__ == "__main__":
    unittest.main()
