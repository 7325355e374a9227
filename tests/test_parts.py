"""Section 10, as far as it speaks of parts."""

import itertools
import math
import random
import unittest

from alldrawn.nets import Net
from alldrawn.parts import parts, shows_parts
from tests.helper import (BALL, CHAIN, Case, FIVE, FOUR, FULL, KITE, LETTERS, LONG, NETS, ODD, OTHER_NAMES, ROADS,
                          SPROUT, SQUARE, TEN, TENT, THIN, THREES, TIED_ROADS, TRIANGLE, TWIG, WHEEL, bent,
                          drawings_by_roads, groups, grown, hang_together, nested, net_of, renamed, text_of, up_to,
                          wrong_values)

RIGHT = (("row", ("a", "b", "c"), (("a", "b"), ("b", "c")), (("a", "c", 1),)),
         ("bundle", ("a", "c"), (("a", "c"),), (("a", "c", 0), ("a", "c", 2))),
         ("row", ("a", "c", "d"), (("a", "d"), ("c", "d")), (("a", "c", 1),)))


def is_ascending(items, key):
    keys = [key(item) for item in items]
    return all(one < other for one, other in zip(keys, keys[1:]))


def is_told_rightly(net, many, part):
    """Whether a part is told as section 10 tells one, right or not."""
    if type(part) is not tuple or len(part) != 4 or any(type(some) is not tuple for some in part[1:]):
        return False
    word, places, ties, thin = part
    if type(word) is not str or word not in ("row", "bundle", "stiff"):
        return False
    if not all(type(place) is str and place in net.places for place in places):
        return False
    if not all(type(tie) is tuple and tie in net.ties for tie in ties):
        return False
    if not is_ascending(places, net.places.index) or not is_ascending(ties, net.ties.index):
        return False
    for tie in thin:
        if type(tie) is not tuple or list(map(type, tie)) != [str, str, int]:
            return False
        if not set(tie[:2]) <= set(places) or not 0 <= tie[2] < many:
            return False
        if net.places.index(tie[0]) >= net.places.index(tie[1]):
            return False
    return is_ascending(thin, lambda tie: tie) and all(set(tie) <= set(places) for tie in ties)


def is_of_its_sort(part):
    word, places, ties, thin = part
    all_ties = list(ties) + [tie[:2] for tie in thin]
    if word == "bundle":
        return len(places) == 2 and len(all_ties) >= 3
    if word == "row":
        once = [sum(place in tie for tie in all_ties) == 2 for place in places]
        return len(places) >= 3 and len(all_ties) == len(places) and all(once) and hang_together(places, all_ties)
    if len(places) < 4 or len(set(all_ties)) < len(all_ties):
        return False
    return all(hang_together([place for place in places if place not in pair], all_ties)
               for pair in itertools.combinations(places, 2))


def right_parts(net, value):
    """Whether a value is right for a net, straight from section 10."""
    if type(value) is not tuple or not all(is_told_rightly(net, len(value), part) for part in value):
        return False
    if not all(is_of_its_sort(part) for part in value):
        return False
    if sorted(tie for part in value for tie in part[2]) != sorted(net.ties):
        return False
    shared = {}
    for at, (_, _, _, thin) in enumerate(value):
        for one, other, to in thin:
            if to == at or (one, other, at) not in value[to][3]:
                return False
            shared[frozenset((at, to)), one, other] = tuple(sorted((at, to)))
    if len(shared) != len(value) - 1 or len(groups(range(len(value)), shared.values())) != 1:
        return False
    for place in net.places:
        having = [at for at, part in enumerate(value) if place in part[1]]
        over = [pair for (_, one, other), pair in shared.items() if place in (one, other)]
        if len(groups(having, over)) != 1:
            return False
    words = [{value[at][0] for at in pair} for pair in shared.values()]
    return {"row"} not in words and {"bundle"} not in words


def in_sequence(value, order):
    """The parts in another sequence, with the numbers that belong to it."""
    number = {old: new for new, old in enumerate(order)}
    return tuple((word, places, ties, tuple(sorted((one, other, number[to]) for one, other, to in thin)))
                 for word, places, ties, thin in [value[old] for old in order])


def count_of(value):
    """How many drawings there must be, by the parts, if there is one."""
    many = 1
    for word, _, ties, thin in value:
        if word == "stiff":
            many *= 2
        elif word == "bundle":
            many *= math.factorial(len(ties) + len(thin) - 1)
    return many


def sorts(net):
    return sorted(part[0] for part in parts(net))


class Parts(Case):
    def check(self, net):
        found = parts(net)
        self.assertIs(right_parts(net, found), True, found)
        self.assertIs(shows_parts(net, found), True)
        return found

    def test_as_in_the_document(self):
        self.assertIs(shows_parts(KITE, RIGHT), True)
        self.assertIs(shows_parts(KITE, RIGHT[:2]), False)
        self.same([part[0] for part in parts(FOUR)], ["stiff"])
        self.same(sorts(TWIG), ["bundle", "row", "row", "stiff"])
        bundle = [part for part in parts(TWIG) if part[0] == "bundle"][0]
        self.same((bundle[1], bundle[2], len(bundle[3])), (("a", "c"), (), 3))
        stiff = [part for part in parts(TWIG) if part[0] == "stiff"][0]
        self.same(stiff[1:3], (("a", "b", "c", "d"), (("a", "b"), ("a", "d"), ("b", "c"), ("b", "d"), ("c", "d"))))
        self.same(stiff[3][0][:2], ("a", "c"))

    def test_all_nets_of_up_to_six_places(self):
        for net in up_to(6):
            with self.subTest(net=net.text):
                self.check(net)

    def test_as_many_drawings_as_the_parts_tell(self):
        five_roads = net_of("a b c d e f g h", "ac cb ad db ae eb af fb ag gh hb ab")
        for net in up_to(6) + [five_roads, grown(2, ties=24)[0], grown(5, ties=30)[0]]:
            drawings = drawings_by_roads(net)
            if drawings:
                self.assertEqual(count_of(parts(net)), len(drawings), net.text)

    def test_nets_that_grow(self):
        sizes = []
        for seed in range(20):
            for ties in (18, 22, 28, 36, 45):
                net = grown(seed, places=10 + seed % 7, ties=ties)[0]
                with self.subTest(net=net.text):
                    sizes.append(len(self.check(net)))
        self.assertLess(10, max(sizes))

    def test_nets_of_any_ties(self):
        chance = random.Random(5)
        for _ in range(60):
            places = LETTERS[:chance.randrange(5, 17)]
            ring = list(zip(places, places[1:] + places[:1]))
            more = [tie for tie in itertools.combinations(places, 2) if tie not in ring and tie[::-1] not in ring]
            many = chance.randrange(0, min(len(more), 45 - len(ring)) + 1)
            self.check(Net(text_of(places, ring + chance.sample(more, min(many, chance.randrange(0, 30))))))

    def test_nets_that_part_twice(self):
        # Ring after ring is hung on two places of the net so far: many parts of all sorts.
        chance = random.Random(7)
        for _ in range(40):
            net = chance.choice((TRIANGLE, FOUR, THREES, TWIG, KITE, FIVE))
            places, ties = list(net.places), list(net.ties)
            while len(places) < 15 and len(ties) < 42:
                one, other = chance.choice((chance.choice(ties), chance.sample(places, 2)))
                new = [chr(ord("z") - len(places) - k) * 2 for k in range(chance.choice((1, 1, 2)))]
                road = [one] + new + [other]
                ties.extend(zip(road, road[1:]))
                places.extend(new)
            self.check(Net(text_of(places, ties)))

    def test_one_part(self):
        for net in (TRIANGLE, SQUARE, LONG):
            self.same(self.check(net), (("row", net.places, net.ties, ()),))
        for net in (FOUR, FIVE, BALL, THREES, TEN, FULL):
            self.same(self.check(net), (("stiff", net.places, net.ties, ()),))

    def test_many_parts(self):
        self.same(sorts(ROADS), ["bundle"] + ["row"] * 14)
        self.check(ROADS)
        self.same(sorts(TIED_ROADS), ["bundle"] + ["row"] * 14)
        bundle = [part for part in self.check(TIED_ROADS) if part[0] == "bundle"][0]
        self.same((bundle[2], len(bundle[3])), ((("a", "b"),), 14))
        self.same(sorts(SPROUT), ["bundle"] * 6 + ["row"] * 7)
        self.check(SPROUT)

    def test_rows_of_thin_ties_alone(self):
        found = self.check(THIN)
        self.same(sorted(part[0] for part in found), ["bundle"] * 3 + ["row"] * 7)
        self.assertIn(("row", ("a", "b", "c"), ()), [part[:3] for part in found])
        self.assertIn(("bundle", ("a", "b"), ()), [part[:3] for part in found])

    def test_stiff_parts_that_share_a_thin_tie(self):
        net = net_of("a b c d e f", "ac ad bc bd cd ae af be bf ef")
        self.same(sorts(net), ["stiff", "stiff"])
        self.check(net)
        self.same(sorts(net + ("a", "b")), ["bundle", "stiff", "stiff"])
        self.check(net + ("a", "b"))

    def test_nets_without_drawings(self):
        for net in (FIVE, THREES, WHEEL, ODD, CHAIN, TEN, FULL):
            self.check(net)
        net = net_of("a b c d e f", "ac ad ae bc bd be cd ce de af fb")
        self.same(sorts(net), ["row", "stiff"])
        self.check(net)
        self.same(sorts(WHEEL), ["row", "stiff"])

    def test_sequence_of_places_and_ties(self):
        net = net_of("d c b a", "ab bc cd da ac")
        due = (("row", ("d", "c", "a"), (("d", "c"), ("d", "a")), (("c", "a", 1),)),
               ("bundle", ("c", "a"), (("c", "a"),), (("c", "a", 0), ("c", "a", 2))),
               ("row", ("c", "b", "a"), (("c", "b"), ("b", "a")), (("c", "a", 1),)))
        self.check(net)
        self.assertIs(shows_parts(net, due), True)
        self.assertIs(shows_parts(net, RIGHT), False)
        self.assertIs(shows_parts(KITE, due), False)

    def test_by_other_names_and_in_another_sequence(self):
        for net in NETS + (CHAIN, SPROUT, ROADS, grown(2, ties=24)[0]):
            self.assertEqual(sorts(renamed(net, OTHER_NAMES)), sorts(net))
            self.check(renamed(net, OTHER_NAMES))
            turned = Net(text_of(net.places[::-1], net.ties))
            self.assertEqual(sorts(turned), sorts(net))
            self.check(turned)

    def test_again(self):
        for net in NETS:
            for other in (net, Net(net.text), Net(text_of(net.places, [tie[::-1] for tie in net.ties[::-1]]))):
                self.same(parts(other), parts(net))

    def test_arguments_stay(self):
        before = (TWIG.text, TWIG.places, TWIG.ties)
        parts(TWIG)
        self.same((TWIG.text, TWIG.places, TWIG.ties), before)


class ShowsParts(Case):
    def check(self, net, value):
        due = right_parts(net, value)
        self.assertIs(shows_parts(net, value), due, value)
        return due

    def test_in_any_sequence(self):
        for net in (KITE, TWIG, TENT):
            value = parts(net)
            for order in itertools.permutations(range(len(value))):
                self.assertIs(self.check(net, in_sequence(value, order)), True)
                # The parts in that sequence, with the numbers that they had.
                self.check(net, tuple(value[old] for old in order))
        value = parts(SPROUT)
        for seed in range(20):
            order = list(range(len(value)))
            random.Random(seed).shuffle(order)
            self.assertIs(self.check(SPROUT, in_sequence(value, order)), True)

    def test_bent(self):
        for net in (TRIANGLE, KITE, FOUR, TWIG, TENT, WHEEL):
            right = [self.check(net, worse) for worse in bent(parts(net))]
            self.assertLess(100, right.count(False))
        for worse in bent(RIGHT):
            self.check(KITE, worse)
        for worse in bent(parts(THIN)):
            self.check(THIN, worse)

    def test_shared_with_another_part_of_the_same_ties(self):
        value = parts(THIN)
        row = [at for at, part in enumerate(value) if part[1] == ("a", "b", "c")][0]
        thin = value[row][3]
        for order in itertools.permutations([tie[2] for tie in thin]):
            told = tuple(tie[:2] + (to,) for tie, to in zip(thin, order))
            self.check(THIN, value[:row] + (value[row][:3] + (told,),) + value[row + 1:])

    def test_parts_that_cannot_be_put_in_a_sequence(self):
        row, bundle, last = RIGHT
        for some in ((None,), (0,), (("a", 1),), (("a", None),), (KITE,), ((("a",), "b"),), (["a"],), ({},)):
            for at in (1, 2, 3):
                worse = row[:at] + (some,) + row[at + 1:]
                self.assertIs(self.check(KITE, (worse, row, last)), False)
                self.assertIs(self.check(KITE, (row, worse, bundle)), False)
                self.assertIs(self.check(KITE, (worse[:at] + (some * 2,) + worse[at + 1:], row, worse)), False)

    def test_kinds(self):
        row, bundle, last = RIGHT
        for value in ((row, bundle[:3] + ((("a", "c", False), ("a", "c", 2)),), last),
                      (row[:3] + ((("a", "c", True),),), bundle, last),
                      (row[:3] + ([("a", "c", 1)],), bundle, last), (row[:3] + ((["a", "c", 1],),), bundle, last),
                      (list(row), bundle, last), list(RIGHT), (row, bundle, last, ()), (row, bundle, last, row),
                      (row[:1] + (["a", "b", "c"],) + row[2:], bundle, last),
                      (row[:1] + ("abc",) + row[2:], bundle, last), (row + ((),), bundle, last),
                      (row, bundle[:3] + ((("a", "c", 2), ("a", "c", 0)),), last),
                      (row, bundle[:3] + ((("c", "a", 0), ("a", "c", 2)),), last),
                      (row, bundle[:3] + ((("a", "c", 0), ("a", "c", 0), ("a", "c", 2)),), last),
                      (row, bundle[:2] + ((("c", "a"),),) + bundle[3:], last),
                      (row[:2] + ((("b", "c"), ("a", "b")),) + row[3:], bundle, last),
                      (row, bundle, last[:3] + ((("a", "c", -2),),)), (row, bundle, last[:3] + ((("a", "c", 4),),)),
                      (("stiff",) + row[1:], bundle, last), ((None,) + row[1:], bundle, last)):
            self.assertIs(self.check(KITE, value), False)

    def test_values_of_all_kinds(self):
        row, bundle, last = RIGHT
        for value in wrong_values() + [nested("tuple", "row")]:
            for told in (value, (value,), (value, bundle, last), ((value,) + row[1:], bundle, last),
                         (row[:1] + (value,) + row[2:], bundle, last), (row[:2] + (value,) + row[3:], bundle, last),
                         (row[:3] + (value,), bundle, last), (row[:3] + ((value,),), bundle, last),
                         (row[:2] + ((value,),) + row[3:], bundle, last),
                         (row[:1] + ((value,),) + row[2:], bundle, last),
                         (row[:3] + ((("a", "c", value),),), bundle, last),
                         (row[:3] + (((value, "c", 1),),), bundle, last)):
                self.check(KITE, told)
            self.assertIs(shows_parts(FIVE, value), False)

    def test_not_fallen_far_enough(self):
        # One part that should fall, and parts that should not have fallen.
        self.assertIs(self.check(KITE, (("stiff", KITE.places, KITE.ties, ()),)), False)
        halves = (("row", ("a", "b", "c"), (("a", "b"), ("b", "c")), (("a", "c", 1),)),
                  ("row", ("a", "c", "d"), (("a", "d"), ("c", "d")), (("a", "c", 0),)))
        self.assertIs(self.check(SQUARE, halves), False)
        self.assertIs(self.check(SQUARE, (("row", SQUARE.places, SQUARE.ties, ()),)), True)
        two = (("row", ("a", "c", "d"), (("a", "d"), ("c", "d")), (("a", "c", 1),)),
               ("bundle", ("a", "c"), (("a", "c"),), (("a", "c", 0), ("a", "c", 2))),
               ("bundle", ("a", "c"), (), (("a", "c", 1), ("a", "c", 3), ("a", "c", 4))),
               ("row", ("a", "b", "c"), (("a", "b"), ("b", "c")), (("a", "c", 2),)),
               ("row", ("a", "c", "e"), (("a", "e"), ("c", "e")), (("a", "c", 2),)))
        net = net_of("a b c d e", "ab bc cd da ac ae ec")
        self.assertIs(self.check(net, two), False)
        one = (two[0], ("bundle", ("a", "c"), (("a", "c"),), tuple(("a", "c", k) for k in (0, 2, 3))),
               two[3][:3] + ((("a", "c", 1),),), two[4][:3] + ((("a", "c", 1),),))
        self.assertIs(self.check(net, one), True)

    def test_ties_at_other_parts(self):
        # A tie that belongs to a bundle as an own tie of the stiff part instead.
        net = net_of("a b c d e", "ab bc cd da ac bd ae ec")
        self.same(sorts(net), ["bundle", "row", "stiff"])
        wrong = (("stiff", ("a", "b", "c", "d"), net_of("a b c d", "ab bc cd da ac bd").ties, (("a", "c", 1),)),
                 ("row", ("a", "c", "e"), (("a", "e"), ("c", "e")), (("a", "c", 0),)))
        self.assertIs(self.check(net, wrong), False)
        wrong = (("stiff", ("a", "b", "c", "d"), net_of("a b c d", "ab bc cd da ac bd").ties, ()),)
        self.assertIs(self.check(net, wrong), False)

    def test_of_another_net(self):
        for one, other in itertools.permutations((KITE, SQUARE, FOUR, TWIG, TENT, THREES), 2):
            self.assertIs(self.check(one, parts(other)), False)


if __name__ == "__main__":
    unittest.main()
