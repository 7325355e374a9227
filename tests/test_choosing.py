"""Section 14: the cheapest ties by which wishes come true."""

import itertools
import random
import unittest

from alldrawn.choosing import cheapest
from alldrawn.errors import BadOffers, BadWishes
from alldrawn.nets import Net
from tests.helper import (BALL, Case, FIVE, FLAT, FOUR, FULL, KITE, ODD, OTHER_NAMES, ROADS, SQUARE, THREES, TRIANGLE,
                          TWIG, WHEEL, all_drawings, drawings_by_roads, fewest_crossed, free_ties, grown, nested,
                          net_of, renamed, rings_once, side_of, text_of, things_off, told_by, up_to, wrong_values)
from tests.test_sides import ring_is_land

AROUND = ("a", "b", "c", "d")
OFFERS = ((("b", "t"), 2), (("d", "u"), 3), (("t", "u"), 4))


def comes_true(net, drawings, wish):
    """Whether a wish comes true, by all drawings of a changed net."""
    if wish[0] == "one":
        return len(drawings) <= 2
    if wish[0] == "far":
        tied = net.tied(wish[1], wish[2])
        return not tied and min(fewest_crossed(drawing, wish[1], wish[2]) for drawing in drawings) >= wish[3]
    if wish[0] in ("always", "never"):
        return {ring_is_land(drawing, wish[1]) for drawing in drawings} == {wish[0] == "always"}
    seen = {side_of(drawing, wish[1], wish[2]) == side_of(drawing, wish[1], wish[3]) for drawing in drawings}
    return seen == {wish[0] == "together"}


def due_cheapest(net, offers, wishes, of=all_drawings):
    """What cheapest must tell, by all drawings of each changed net."""
    choices = [some for count in range(len(offers) + 1) for some in itertools.combinations(offers, count)]
    reasons = []
    for _, _, choice in sorted((sum(offer[1] for offer in some), len(some), some) for some in choices):
        if len(net.ties) + len(choice) > 45:
            continue
        changed = Net(text_of(net.places, net.ties + tuple(tie for tie, _ in choice)))
        drawings = of(changed)
        if not drawings:
            continue
        failed = [number for number, wish in enumerate(wishes) if not comes_true(changed, drawings, wish)]
        if not failed:
            return "choice", sum(price for _, price in choice), choice, tuple(reasons)
        reasons.append((choice, failed[0]))
    return "none", tuple(reasons)


def some_offers(net, chance, most=4):
    free = [tie[::-1] if chance.random() < 0.5 else tie for tie in free_ties(net)]
    count = min(len(free), chance.randrange(1, most + 1))
    return tuple(sorted((tie, chance.choice((1, 1, 2, 3, 9))) for tie in chance.sample(free, count)))


def some_wish(net, chance):
    ring = chance.choice(rings_once(net) if len(net) < 8 else [AROUND])
    at = chance.randrange(len(ring))
    ring = (ring[at:] + ring[:at])[::chance.choice((1, -1))]
    things = things_off(net, ring)
    kind = chance.choice(("one", "far", "always", "never", "together", "apart"))
    if kind in ("together", "apart") and things:
        return kind, ring, chance.choice(things), chance.choice(things)
    if kind in ("always", "never"):
        return kind, ring
    if kind == "far":
        return (kind,) + tuple(chance.sample(net.places, 2)) + (chance.choice((0, 1, 1, 2, 99)),)
    return ("one",)


class Examples(Case):
    def test_as_in_the_document(self):
        self.same(cheapest(TWIG, OFFERS, (("one",),)), ("choice", 2, ((("b", "t"), 2),), (((), 0),)))
        self.same(cheapest(KITE, ((("b", "d"), 1),), (("far", "b", "d", 1),)),
                  ("none", (((), 0), (((("b", "d"), 1),), 0))))


class Cheapest(Case):
    def check(self, net, offers, wishes, of=all_drawings):
        due = due_cheapest(net, offers, wishes, of)
        self.same(cheapest(net, offers, wishes), due)
        return due

    def test_nets_of_up_to_six_places(self):
        chance = random.Random(1)
        words = []
        for net in up_to(6):
            for _ in range(4 if free_ties(net) else 0):
                offers = some_offers(net, chance)
                wishes = tuple(some_wish(net, chance) for _ in range(chance.choice((1, 1, 2, 3))))
                with self.subTest(net=net.text, offers=offers, wishes=wishes):
                    due = self.check(net, offers, wishes)
                    words.append((due[0], bool(due[-1])))
        self.assertLess(15, min(words.count(("choice", False)), words.count(("choice", True)),
                                words.count(("none", True))))

    def test_each_wish(self):
        chance = random.Random(2)
        ring = ("a", "t", "c", "b")
        wishes = [("one",), ("together", AROUND, "t", "u"), ("apart", AROUND, ("b", "d"), "t"),
                  ("together", ring, "u", "d"), ("apart", ring, "u", "d"), ("together", ring, ("c", "d"), ("u", "a")),
                  ("always", ring), ("never", ring), ("always", ("t", "a", "u", "c")), ("never", AROUND),
                  ("far", "b", "u", 0), ("far", "b", "u", 1), ("far", "t", "b", 1), ("far", "t", "u", 2),
                  ("far", "a", "b", 0), ("far", "a", "b", 99)]
        words = set()
        for wish in wishes:
            for _ in range(3):
                words.add((wish[0], self.check(TWIG, some_offers(TWIG, chance), (wish,))[0]))
            self.check(TWIG, OFFERS, (wish, ("one",)))
            self.check(TWIG, OFFERS, (("one",), wish))
        for word in ("one", "far", "always", "never", "together", "apart"):
            self.assertIn((word, "choice"), words)

    def test_nets_that_grow(self):
        chance = random.Random(3)
        for seed in range(8):
            net = grown(seed, places=9, ties=13 + seed % 3)[0]
            if len(drawings_by_roads(net)) > 60:
                continue
            for _ in range(4):
                wishes = tuple(chance.choice((("one",), ("far",) + tuple(chance.sample(net.places, 2)) + (
                    chance.randrange(3),))) for _ in range(2))
                self.check(net, some_offers(net, chance, 3), wishes, drawings_by_roads)

    def test_prices_alike(self):
        # By price, then by how many offers there are, then as tuples.
        net = net_of("a b c d e f", "ab bc cd de ef fa")
        offers = ((("a", "c"), 2), (("a", "d"), 1), (("b", "d"), 1), (("b", "e"), 2))
        wish = ("far", "c", "f", 99)
        one, two, three, four = offers
        word, reasons = cheapest(net, offers, (wish,))
        self.same((word, {number for _, number in reasons}), ("none", {0}))
        self.same([choice for choice, _ in reasons],
                  [(), (two,), (three,), (one,), (four,), (two, three), (one, two), (one, three), (two, four),
                   (three, four), (one, four), (one, two, three), (two, three, four), (one, two, four),
                   (one, three, four), offers])
        self.check(net, offers, (wish,), drawings_by_roads)
        self.check(net, offers, (("one",),), drawings_by_roads)

    def test_nothing_need_be_done(self):
        for net in (FOUR, BALL, TRIANGLE):
            if free_ties(net):
                self.same(cheapest(net, ((free_ties(net)[0], 1),), (("one",),)), ("choice", 0, (), ()))
        self.same(cheapest(SQUARE, ((("a", "c"), 9),), (("one",), ("always", AROUND))), ("choice", 0, (), ()))

    def test_choices_that_have_no_drawing_do_not_count(self):
        found = cheapest(BALL, ((("t", "u"), 1),), (("far", "a", "b", 0),))
        self.same(found, ("none", (((), 0),)))
        net = FIVE - ("a", "b") - ("c", "d")
        self.same(cheapest(net, ((("a", "b"), 1), (("c", "d"), 1)), (("far", "a", "b", 2),)),
                  ("none", (((), 0), (((("a", "b"), 1),), 0), (((("c", "d"), 1),), 0))))

    def test_undrawable(self):
        for net in (THREES, WHEEL, ODD, FULL):
            offers = ((free_ties(net)[0], 1),)
            self.same(cheapest(net, offers, (("one",),)), ("none", ()))
            self.same(cheapest(net, offers, (("far", "b", "c", 0), ("one",))), ("none", ()))
            self.refused(BadWishes, (), cheapest, net, offers, ())
            self.refused(BadOffers, (), cheapest, net, (), ())

    def test_at_most_45_ties(self):
        # No net of 16 places with a drawing has 43 ties; without one none counts, whatever is offered.
        free = free_ties(FULL)
        for count in (1, 2, 4):
            self.same(cheapest(FULL, tuple((tie, 1) for tie in free[:count]), (("one",),)), ("none", ()))
        net = FULL - [tie for tie in FULL.ties if "b" in tie and not set(tie) & {"a", "c"}][0]
        self.same(cheapest(net, tuple((tie, 1) for tie in free_ties(net)[:4]), (("one",),)), ("none", ()))
        net = grown(3, ties=42)[0]
        offers = tuple((tie, 1) for tie in free_ties(net)[:4])
        self.same(cheapest(net, offers, (("far", "a", "b", 99),))[0], "none")

    def test_first_wish_that_fails(self):
        due = self.check(TWIG, OFFERS, (("far", "t", "b", 0), ("far", "t", "u", 1), ("one",)))
        self.assertEqual({number for _, number in due[-1]}, {0, 1})
        due = self.check(TWIG, OFFERS, (("one",), ("far", "b", "t", 0), ("far", "t", "u", 0)))
        self.assertEqual({number for _, number in due[-1]}, {0, 1})
        due = self.check(TWIG, OFFERS, (("far", "t", "u", 0), ("far", "d", "u", 0), ("never", ("a", "t", "c", "u"))))
        self.assertEqual({number for _, number in due[-1]}, {0, 1, 2})

    def test_offers_told_the_other_way(self):
        for offers in (((("t", "b"), 2), (("u", "d"), 3)), ((("b", "t"), 2), (("u", "d"), 3))):
            found = self.check(TWIG, offers, (("one",),))
            self.same(found[2], offers[:1])

    def test_great_numbers(self):
        found = cheapest(ROADS, ((("a", "b"), 1), (("c", "d"), 2)), (("one",),))
        self.same([found[0], len(found[1])], ["none", 4])

    def test_names(self):
        for net, offers, wishes in ((TWIG, OFFERS, (("one",), ("far", "d", "t", 1))),
                                    (TWIG, OFFERS, (("together", ("a", "t", "c", "b"), "u", "d"),))):
            names = dict(OTHER_NAMES)
            found = cheapest(net, offers, wishes)
            told = tuple(sorted((tuple(names[place] for place in tie), price) for tie, price in offers))
            words = {word: word for word in ("one", "far", "together")}
            other = cheapest(renamed(net, names), told, told_by({**names, **words}, wishes))
            self.same(other[:2], found[:2])

    def test_again(self):
        again = Net(text_of(TWIG.places, [tie[::-1] for tie in TWIG.ties[::-1]]))
        self.same(cheapest(again, OFFERS, (("one",),)), cheapest(TWIG, OFFERS, (("one",),)))

    def test_arguments_stay(self):
        before = (TWIG.text, TWIG.places, TWIG.ties)
        cheapest(TWIG, OFFERS, (("one",),))
        self.same((TWIG.text, TWIG.places, TWIG.ties), before)


class Refused(Case):
    GOOD = (("one",),)

    def test_offers(self):
        good = ("b", "t")
        wrong = [(), [], list(OFFERS), OFFERS[::-1], OFFERS + OFFERS[:1], OFFERS[:1] * 2, (good, 2), ((good, 2, 3),),
                 ((good,),), ([good, 2],), (([*good], 2),), (("bt", 2),), ((good, 0),), ((good, 10),), ((good, -1),),
                 ((good, True),), ((good, None),), ((good, "2"),), ((good, (2,)),), ((good, 10 ** 39),), ((None, 2),),
                 ((("a", "b"), 2),), ((("b", "a"), 2),), ((("b", "b"), 2),), ((("b", "q"), 2),), ((("b",), 2),),
                 ((("b", "t", "u"), 2),), ((("b", None), 2),), ((("b", ["t"]), 2),), ((KITE, 2),), (FLAT,), (good,),
                 ((good, 2), (("t", "b"), 3)), ((good, 2), (good, 3)), ((good, 2), None), ((good, 3), (good, 2)),
                 ((good, 1), (("b", "u"), 1), (("d", "t"), 1), (("d", "u"), 1), (("t", "u"), 1)), {good: 2},
                 ((("d", "u"), 2), (good, 1)), (((good, 2),),), "bt2", ((good, 2), (good, True))]
        for value in wrong_values() + wrong:
            with self.subTest(value=value):
                for net in (TWIG, TWIG + ("b", "u")) if value not in ([], ()) else (TWIG,):
                    self.refused_itself(BadOffers, value, cheapest, net, value, self.GOOD)
                self.refused_itself(BadOffers, value, cheapest, TWIG, value, None)
                self.refused_itself(BadOffers, value, cheapest, TWIG, value, value)
        # Each of four offers with one thing wrong.
        four = ((("b", "t"), 1), (("b", "u"), 9), (("d", "t"), 5), (("t", "u"), 2))
        cheapest(TWIG, four, self.GOOD)
        for at in range(4):
            tie, price = four[at]
            for worse in ((tie, price, 1), (tie,), [tie, price], (list(tie), price), (tie, 0), (tie, 10), (tie, True),
                          (tie + ("a",), price), (tie[:1], price), (("a", "b"), price), ((tie[0], "q"), price), tie):
                value = four[:at] + (worse,) + four[at + 1:]
                self.refused_itself(BadOffers, value, cheapest, TWIG, value, self.GOOD)

    def test_wishes(self):
        ring = ("a", "t", "c", "b")
        right = [("one",), ("together", ring, "u", "d"), ("apart", ring, ("u", "a"), "d"), ("always", ring),
                 ("never", ring[::-1]), ("far", "b", "t", 0), ("far", "a", "b", 99), ("far", "t", "b", 99)]
        for wish in right:
            cheapest(TWIG, OFFERS[:1], (wish,))
        wrong = ["one", ["one"], (), ("one", ()), ("two",), ("One",), (None,), (True,), (1,), ("always",),
                 ("always", ring, ring), ("always", list(ring)), ("always", "atcb"), ("always", ("a", "t", "b")),
                 ("always", ("a", "b")), ("never", None), ("never", ()), ("never", ("a", "b", "c", "t", "a")),
                 ("together", ring), ("together", ring, "u"), ("together", ring, "u", "d", "d"),
                 ("together", ring, "a", "d"), ("together", ring, "u", "b"), ("together", ring, ("a", "b"), "d"),
                 ("together", ring, "u", ("d", "u")), ("together", ring, "u", ["d", "a"]), ("together", ring, "q", "d"),
                 ("together", list(ring), "u", "d"), ("together", ("a", "b", "u"), "d", "t"),
                 ("apart", ring, None, "d"),
                 ("apart", ring, "d", True), ("apart", ring, ("d", "a", "b"), "d"), ("apart", ring, ("b", "t"), "d"),
                 ("open", ring, "u", "d"), ("open", ring), ("far", "b", "t"), ("far", "b", "t", 1, 1),
                 ("far", "b", "b", 1),
                 ("far", "b", "q", 1), ("far", "q", "b", 1), ("far", None, "b", 1), ("far", "b", ["t"], 1),
                 ("far", "b", "t", -1), ("far", "b", "t", 100), ("far", "b", "t", True), ("far", "b", "t", False),
                 ("far", "b", "t", "1"), ("far", "b", "t", None), ("far", "b", "t", (1,)), ["far", "b", "t", 1],
                 ("far", ("b", "t"), 1), ("always", KITE), ("together", FLAT, "u", "d"),
                 KITE, FLAT, {"one": 1}, None, True, 0]
        for wish in wrong + wrong_values():
            for wishes in ((wish,), (("one",), wish), (wish, ("one",), ("one",)), (("one",), right[1], wish)):
                with self.subTest(wishes=wishes):
                    self.refused_itself(BadWishes, wishes, cheapest, TWIG, OFFERS, wishes)

    def test_tuples_of_wishes(self):
        one = ("one",)
        for value in wrong_values() + [(), [], [one], one, (one,) * 4, (one,) * 5, {one: one}, "one", ((one,),)]:
            self.refused_itself(BadWishes, value, cheapest, TWIG, OFFERS, value)
        for count in (1, 2, 3):
            self.same(cheapest(TWIG, OFFERS, (one,) * count)[:2], ("choice", 2))

    def test_ring_of_the_net_itself(self):
        # The ring, and the things, must be of the net, not only of a changed one.
        wish = ("always", ("b", "t", "a"))
        self.refused(BadWishes, (wish,), cheapest, TWIG, OFFERS, (wish,))
        wish = ("together", AROUND, ("b", "t"), "u")
        self.refused(BadWishes, (wish,), cheapest, TWIG, OFFERS, (wish,))
        # A further tie between two places of a ring hangs on it.
        net = net_of("a b c d e f", "ab bc cd de ef fa")
        ring = tuple("abcdef")
        self.same(cheapest(net, ((("a", "c"), 1), (("b", "d"), 1)), (("never", ring),)),
                  ("choice", 2, ((("a", "c"), 1), (("b", "d"), 1)),
                   (((), 0), (((("a", "c"), 1),), 0), (((("b", "d"), 1),), 0))))

    def test_values_within(self):
        for value in wrong_values() + [nested("tuple", "one")]:
            self.refused(BadOffers, ((("b", "t"), 1), value), cheapest, TWIG, ((("b", "t"), 1), value), self.GOOD)
            self.refused(BadOffers, ((value, 1),), cheapest, TWIG, ((value, 1),), self.GOOD)
            if not (type(value) is int and value == 1):
                self.refused(BadOffers, ((("b", "t"), value),), cheapest, TWIG, ((("b", "t"), value),), self.GOOD)
            self.refused(BadWishes, (("always", value),), cheapest, TWIG, OFFERS, (("always", value),))
            self.refused(BadWishes, ((value,),), cheapest, TWIG, OFFERS, ((value,),))


if __name__ == "__main__":
    unittest.main()
