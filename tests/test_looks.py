"""Section 12: looks at a drawing that nobody shows."""

import itertools
import random
import unittest

from alldrawn.drawings import Drawing
from alldrawn.errors import Against, BadLook, BadLooks, NoDrawing, TooMany
from alldrawn.looks import asks, clash, left, needless, shows_asks, shows_clash, shows_sure, sure
from alldrawn.nets import Net
from alldrawn.numbers import many, nth
from alldrawn.parts import parts
from tests.helper import (BALL, CHAIN, Case, DEEP, FIVE, FLAT, FOUR, HEAPS, KITE, LONG, ODD, ROADS, SPROUT, SQUARE, TEN,
                          TENT, THIN, THREES, TIED_ROADS, TRIANGLE, TWIG, WHEEL, all_drawings, bent, drawings_by_roads,
                          drawings_having, grown, look_is_so, looks_of, nested, net_of, text_of, up_to, wrong_values)

ONE, FAR = ("a", "b", "d", "t"), ("a", "b", "t", "u")
# Bundles of six and of seven own ties and thin ties, with a stiff part over one of them, and a bundle within another.
SIX = net_of("a b c d e f g h i j", "ac cb ad db ae eb af fb ag gh hb gi ij jb hj ah")
SEVEN = net_of("a b c d e f g h i j k", "ac cb ad db ae eb af fb ag gh hb gi ij jb hj ah ak kb ab")
# A bundle of seven, one of which is all that is tied of five places, two of them being its ends.
STUCK = net_of("a b c d e f g h i j k", "ac ad ae bc bd be cd ce de af fb ag gb ah hb ai ib aj jb ak kb")
# Three bundles of six, each with a thin tie to a row of their three places, and a stiff part over one of the roads.
SIXES = net_of("a b c d e f g h i j k l m n o p",
               "ab bc ca ad db ae eb af fb ag gb bh hc bi ic bj jc bk kc cl la cm ma cn na co oa cp pa op")
# A place amid a ring.
HUB = Net(text_of("abcdefghij", [("a", place) for place in "bcdefghij"] + list(zip("bcdefghij", "cdefghijb"))))
UNDRAWABLE = (FIVE, THREES, WHEEL, ODD, TEN)


def contrary(look):
    return (look[0], look[1], look[3], look[2])


def right_sure(net, drawings, looks, look, value):
    """Whether a value is right, straight from section 12: drawings are all of the net."""
    if type(value) is not tuple or not value or type(value[0]) is not str:
        return False
    having = drawings_having(drawings, looks)
    if value == ("so",):
        return all(look_is_so(drawing, look) for drawing in having)
    if value == ("not",):
        return not any(look_is_so(drawing, look) for drawing in having)
    if value[0] != "open" or len(value) != 3:
        return False
    if any(type(drawing) is not Drawing or drawing not in having for drawing in value[1:]):
        return False
    return look_is_so(value[1], look) and not look_is_so(value[2], look)


def are_some_looks(net, value):
    """Whether a value is an ascending tuple of looks."""
    if type(value) is not tuple or any(type(look) is not tuple or any(type(part) is not str for part in look)
                                       for look in value):
        return False
    return set(value) <= set(looks_of(net)) and list(value) == sorted(set(value))


def right_clash(net, drawings, looks, value):
    if drawings_having(drawings, looks):
        return type(value) is tuple and value == ()
    if not are_some_looks(net, value) or not set(value) <= set(looks) or drawings_having(drawings, value):
        return False
    return all(drawings_having(drawings, value[:at] + value[at + 1:]) for at in range(len(value)))


def tells_apart(drawings, looks):
    return len({tuple(look_is_so(drawing, look) for look in looks) for drawing in drawings}) == len(drawings)


def right_asks(net, drawings, looks, value):
    if not are_some_looks(net, value):
        return False
    having = drawings_having(drawings, looks)
    if not tells_apart(having, value):
        return False
    return not any(tells_apart(having, value[:at] + value[at + 1:]) for at in range(len(value)))


def due_needless(drawings, looks):
    found = []
    for at, look in enumerate(looks):
        others = drawings_having(drawings, looks[:at] + looks[at + 1:])
        if all(look_is_so(drawing, look) for drawing in others):
            found.append(look)
    return tuple(found)


def some_looks(net, drawings, chance):
    """Tuples of looks: some that a drawing has, some of any kind."""
    whole = looks_of(net)
    found = [()]
    for count in (1, 2, 3, 5, 9, 30):
        if count <= len(whole):
            found.append(tuple(sorted(chance.sample(whole, count))))
        drawing = chance.choice(drawings)
        seen = [look for look in whole if look_is_so(drawing, look)]
        found.append(tuple(sorted(chance.sample(seen, min(count, len(seen))))))
        if len(seen) > count:
            other = contrary(chance.choice(seen))
            found.append(tuple(sorted(set(found[-1][:29] + (other,)))))
    return found


class Looked(Case):
    def check_sure(self, net, drawings, looks, look):
        found = sure(net, looks, look)
        seen = {look_is_so(drawing, look) for drawing in drawings_having(drawings, looks)}
        self.same(found[0], {(True,): "so", (False,): "not", (False, True): "open"}[tuple(sorted(seen))])
        self.assertIs(right_sure(net, drawings, looks, look, found), True)
        self.assertIs(shows_sure(net, looks, look, found), True)

    def check(self, net, drawings, looks, chance):
        having = drawings_having(drawings, looks)
        self.same(left(net, looks), len(having))
        found = clash(net, looks)
        self.assertIs(right_clash(net, drawings, looks, found), True, found)
        self.assertIs(shows_clash(net, looks, found), True)
        if not having:
            for call, given in ((needless, ()), (asks, ()), (shows_asks, ((),)), (sure, (looks[0],)),
                                (shows_sure, (looks[0], ("so",)))):
                self.refused(Against, None, call, net, looks, *given)
            return False
        self.same(needless(net, looks), due_needless(drawings, looks))
        found = asks(net, looks)
        self.assertIs(right_asks(net, drawings, looks, found), True, found)
        self.assertIs(shows_asks(net, looks, found), True)
        self.assertIs(found == (), len(having) == 1)
        for look in chance.sample(looks_of(net), min(6, len(looks_of(net)))):
            self.check_sure(net, drawings, looks, look)
        return True


class Examples(Case):
    def test_as_in_the_document(self):
        self.same([left(TWIG, ()), left(TWIG, (ONE,)), left(TWIG, (ONE, FAR)),
                   sure(FOUR, (("a", "b", "c", "d"),), ("b", "a", "d", "c")),
                   sure(FOUR, (("a", "b", "c", "d"),), ("b", "a", "c", "d"))], [4, 2, 1, ("so",), ("not",)])
        self.same([needless(FOUR, (("a", "b", "c", "d"), ("b", "a", "d", "c"))),
                   clash(FOUR, (("a", "b", "c", "d"), ("b", "a", "c", "d"))), clash(TWIG, (ONE,))],
                  [(("a", "b", "c", "d"), ("b", "a", "d", "c")), (("a", "b", "c", "d"), ("b", "a", "c", "d")), ()])


class AllFunctions(Looked):
    def test_all_nets_of_up_to_six_places(self):
        chance = random.Random(1)
        had = []
        for net in up_to(6):
            drawings = all_drawings(net)
            if drawings:
                for looks in some_looks(net, drawings, chance):
                    with self.subTest(net=net.text, looks=looks):
                        had.append(self.check(net, drawings, looks, chance))
        self.assertLess(100, had.count(True))
        self.assertLess(100, had.count(False))

    def test_parts_within_parts(self):
        chance = random.Random(2)
        for net in (HEAPS, SPROUT, THIN, DEEP):
            drawings = drawings_by_roads(net)
            for looks in some_looks(net, drawings, chance)[::2 if net == DEEP else 1]:
                self.check(net, drawings, looks, chance)

    def test_nets_that_grow(self):
        chance = random.Random(3)
        for seed in range(14):
            net = grown(seed, places=8 + seed % 9, ties=15 + seed)[0]
            drawings = drawings_by_roads(net)
            big = any(part[0] == "bundle" and len(part[2] + part[3]) > 6 for part in parts(net))
            if len(drawings) <= 150 and not big:
                for looks in some_looks(net, drawings, chance)[seed % 2::2]:
                    self.check(net, drawings, looks, chance)

    def test_all_single_looks(self):
        chance = random.Random(4)
        for net in (FOUR, TWIG, TENT, THIN, BALL):
            drawings = drawings_by_roads(net)
            for look in looks_of(net):
                self.check(net, drawings, (look,), chance)
                self.same(left(net, (look,)) + left(net, (contrary(look),)), many(net))
                self.same(clash(net, tuple(sorted((look, contrary(look))))), tuple(sorted((look, contrary(look)))))

    def test_all_pairs_of_looks(self):
        chance = random.Random(5)
        for looks in itertools.combinations(looks_of(TWIG), 2):
            self.check(TWIG, all_drawings(TWIG), looks, chance)

    def test_stiff_parts_are_half_and_half(self):
        for net in (FOUR, BALL, CHAIN, HEAPS, grown(1, ties=40)[0]):
            places = {place for part in parts(net) if part[0] == "bundle" for place in part[1]}
            for look in looks_of(net)[::5]:
                if look[0] not in places:
                    self.same(left(net, (look,)) * 2, many(net))

    def test_two_looks_at_the_same_ties_of_a_part(self):
        # Two ties lead from a into the stiff part: both look from the same side.
        net = net_of("a b c d e f", "ac ad cb db cd ae eb af fb")
        drawings = all_drawings(net)
        looks = (("a", "c", "e", "f"), ("a", "d", "e", "f"))
        self.check(net, drawings, looks, random.Random(6))
        self.same(needless(net, looks), looks)
        self.same(needless(net, looks[:1]), ())
        self.same(clash(net, (("a", "c", "e", "f"), ("a", "d", "f", "e"))),
                  (("a", "c", "e", "f"), ("a", "d", "f", "e")))

    def test_clash_of_three(self):
        net = net_of("a b c d e f", "ac cb ad db ae eb af fb")
        looks = (("a", "c", "d", "e"), ("a", "c", "e", "f"), ("a", "c", "f", "d"))
        self.same(clash(net, looks), looks)
        for pair in itertools.combinations(looks, 2):
            self.same(clash(net, pair), ())
        # At the other end they are seen the other way round.
        self.same(sure(net, looks[:1], ("b", "c", "d", "e")), ("not",))
        self.same(sure(net, looks[:1], ("b", "c", "e", "d")), ("so",))
        self.same(sure(net, looks[:2], ("a", "d", "e", "f")), ("so",))

    def test_no_looks(self):
        for net in (TRIANGLE, SQUARE, KITE, FOUR, TWIG, LONG, ROADS, TIED_ROADS, SEVEN):
            self.same(left(net, ()), many(net))
            self.same(clash(net, ()), ())
            self.same(needless(net, ()), ())
        for net in (TRIANGLE, SQUARE, LONG):
            self.same(asks(net, ()), ())
            self.same(looks_of(net), [])
        self.same(len(asks(FOUR, ())), 1)
        self.same(len(asks(TWIG, ())), 2)

    def test_thirty_and_thirty_one_looks(self):
        for net in (HUB, CHAIN):
            drawing = nth(net, 1)
            seen = tuple(look for look in looks_of(net) if look_is_so(drawing, look))
            thirty, more = seen[:30], seen[:31]
            self.same(left(net, thirty), 1)
            self.same(clash(net, thirty), ())
            self.same(needless(net, thirty), thirty)
            self.same(asks(net, thirty), ())
            self.same(sure(net, thirty, seen[-1]), ("so",))
            for call, given in ((left, ()), (clash, ()), (needless, ()), (asks, ()), (sure, (seen[0],)),
                                (shows_sure, (seen[0], None)), (shows_clash, (None,)), (shows_asks, (None,))):
                self.refused_itself(BadLooks, more, call, net, more, *given)

    def test_asks_of_any_number(self):
        self.same(sorted(len(part[2] + part[3]) for part in parts(SIXES) if part[0] == "bundle"), [6, 6, 6])
        self.same(many(SIXES), 120 ** 3 * 2)
        value = asks(SIXES, ())
        self.assertLess(30, len(value))
        self.assertIs(shows_asks(SIXES, (), value), True)
        # So many looks can be told, but not handed in.
        self.refused_itself(BadLooks, value, left, SIXES, value)
        whole = tuple(looks_of(SIXES))
        self.assertLess(700, len(whole))
        for worse in (whole, whole[1:], value[1:], value[:-1], value[:9] + value[10:], value[::-1],
                      tuple(sorted(value + whole[:1])), tuple(sorted(value + (contrary(value[0]),)))):
            self.assertIs(shows_asks(SIXES, (), worse), worse == value, worse)
        drawing = nth(SIXES, 1234567)
        had = tuple(sorted(look if look_is_so(drawing, look) else contrary(look) for look in value))[:30]
        self.assertLess(0, left(SIXES, had))
        self.assertIs(shows_asks(SIXES, had, asks(SIXES, had)), True)
        self.assertIs(shows_asks(SIXES, had, value), False)

    def test_asks_of_many_looks(self):
        self.same(len(asks(HUB, ())), 1)
        self.same(len(asks(SPROUT, ())), 6)
        self.same(len(asks(HEAPS, ())), 5)

    def test_again(self):
        for net in (TWIG, FOUR, SPROUT):
            other = Net(text_of(net.places, [tie[::-1] for tie in net.ties[::-1]]))
            for look in looks_of(net)[::7]:
                self.assertEqual(left(other, (look,)), left(net, (look,)))
                self.assertEqual(asks(other, (look,)), asks(net, (look,)))
                self.assertEqual(sure(other, (look,), looks_of(net)[0]), sure(net, (look,), looks_of(net)[0]))


class Bundles(Looked):
    """At most six own ties and thin ties, where looks are at them."""

    AT_SIX = (("a", "c", "d", "e"), ("b", "c", "h", "d"), ("b", "d", "e", "j"), ("a", "c", "f", "g"))
    AT_SEVEN = (("a", "b", "c", "d"), ("b", "a", "c", "j"), ("a", "c", "d", "g"), ("b", "d", "k", "h"))

    def test_sizes(self):
        for net, due in ((SIX, [5]), (SEVEN, [7]), (STUCK, [7])):
            self.same([len(part[2] + part[3]) for part in parts(net) if part[0] == "bundle"], due)

    def test_six(self):
        chance = random.Random(7)
        six = SEVEN.without("k")
        self.same([len(part[2] + part[3]) for part in parts(six) if part[0] == "bundle"], [6])
        for net in (SIX, six, net_of("a b c d e f g h", "ac cb ad db ae eb af fb ag gb ah hb")):
            drawings = drawings_by_roads(net)
            for looks in some_looks(net, drawings, chance):
                self.check(net, drawings, looks, chance)

    def test_seven_with_a_look_of_the_bundle(self):
        other = ("h", "a", "b", "g")
        for look in self.AT_SEVEN:
            for looks in ((look,), tuple(sorted((look, other))), tuple(sorted((look, contrary(look))))):
                for call, given in ((left, ()), (clash, ()), (needless, ()), (asks, ()), (sure, (other,)),
                                    (shows_sure, (other, None)), (shows_clash, (None,)), (shows_asks, (None,))):
                    self.refused(TooMany, 6, call, SEVEN, looks, *given)
            for looks in ((), (other,), tuple(sorted((other, contrary(other))))):
                self.refused(TooMany, 6, sure, SEVEN, looks, look)
                self.refused(TooMany, 6, shows_sure, SEVEN, looks, look, ("so",))

    def test_seven_without_a_look_of_the_bundle(self):
        look, second = ("h", "a", "b", "g"), ("g", "a", "h", "i")
        self.same(left(SEVEN, ()), 720 * 2)
        self.same(left(SEVEN, (look,)), 720)
        drawing = sure(SEVEN, (), look)[1]
        self.assertIs(look_is_so(drawing, look), True)
        self.assertIs(shows_sure(SEVEN, (), look, sure(SEVEN, (), look)), True)
        due = "so" if look_is_so(drawing, second) else "not"
        self.same(sure(SEVEN, (look,), second), (due,))
        both = (look, contrary(look))
        self.same(clash(SEVEN, both), both)
        self.same(needless(SEVEN, (look,)), ())
        self.same(left(SEVEN, both), 0)
        self.refused(Against, None, needless, SEVEN, both)
        # Which looks are enough cannot be told, whatever looks there are.
        for looks in ((), (look,), both):
            self.refused(TooMany, 6, asks, SEVEN, looks)
            self.refused(TooMany, 6, shows_asks, SEVEN, looks, ())

    def test_great_numbers(self):
        self.same(left(ROADS, ()), many(ROADS))
        self.same(left(TIED_ROADS, ()), 87178291200)
        self.refused(TooMany, 6, left, ROADS, (("a", "c", "d", "e"),))
        self.refused(TooMany, 6, asks, ROADS, ())

    def test_errors_in_their_order(self):
        at_bundle, within, bad = ("a", "f", "g", "h"), ("c", "a", "b", "d"), ("a", "b", "c")
        for call, given in ((left, ()), (clash, ()), (needless, ()), (asks, ())):
            self.refused(BadLooks, (bad,), call, STUCK, (bad,))
            self.refused(TooMany, 6, call, STUCK, (at_bundle,))
            self.refused(TooMany, 6, call, STUCK, (at_bundle, within))
        for call in (left, clash, needless):
            self.refused(NoDrawing, None, call, STUCK, ())
            self.refused(NoDrawing, None, call, STUCK, (within,))
            self.refused(NoDrawing, None, call, STUCK, (within, contrary(within)))
        self.refused(TooMany, 6, asks, STUCK, (within,))
        self.refused(BadLooks, (bad,), sure, STUCK, (bad,), bad)
        self.refused(BadLook, bad, sure, STUCK, (at_bundle,), bad)
        self.refused(TooMany, 6, sure, STUCK, (at_bundle,), within)
        self.refused(TooMany, 6, sure, STUCK, (within,), at_bundle)
        self.refused(NoDrawing, None, sure, STUCK, (within, contrary(within)), within)
        self.refused(NoDrawing, None, shows_sure, STUCK, (), within, ("so",))
        self.refused(NoDrawing, None, shows_clash, STUCK, (), ())
        self.refused(TooMany, 6, shows_asks, STUCK, (), ())
        look = ("h", "a", "b", "g")
        self.refused(TooMany, 6, sure, SEVEN, (look, contrary(look)), self.AT_SEVEN[0])
        self.refused(Against, None, sure, SEVEN, (look, contrary(look)), look)
        self.refused(BadLook, bad, sure, SEVEN, (look, contrary(look)), bad)


class Refused(Case):
    CALLS = ((left, ()), (clash, ()), (needless, ()), (asks, ()), (sure, (ONE,)), (sure, (None,)),
             (shows_sure, (None, None)), (shows_sure, (ONE, ("so",))), (shows_clash, ((),)), (shows_asks, ((),)))

    def wrong_looks(self):
        """Values none of which is an ascending tuple of looks of the net TWIG."""
        return [[], [ONE], [ONE, FAR], (ONE, ONE), (FAR, ONE), ONE, (list(ONE),), (ONE, list(FAR)), "", "abdt", {},
                None, {ONE: FAR}, (ONE, None), (ONE, True), (0,), ((),), (ONE + ("u",),), (ONE[:3],), (ONE, FAR, FAR),
                (("a", "b", "d", "d"),), (("a", "d", "b", "t"),), (("a", "t", "b", "u"),), (("a", "b", "b", "d"),),
                (("t", "a", "c", "b"),), (("a", "b", "c", "d"),), (("q", "a", "b", "c"),), ((None, "b", "d", "t"),),
                (("a", None, "d", "t"),), (("a", "b", ["d"], "t"),), (("a", "b", "d", True),), ((ONE,),),
                ((["a"], "b", "d", "t"),), (ONE, ("a", "b", {"t": 1}, "u")), (KITE,), (ONE, FLAT)]

    def test_looks(self):
        for value in wrong_values() + self.wrong_looks():
            if type(value) is tuple and value == ():
                continue
            with self.subTest(value=value):
                for call, given in self.CALLS:
                    self.refused_itself(BadLooks, value, call, TWIG, value, *given)

    def test_look(self):
        wrong = [ONE + ("u",), ONE[:3], list(ONE), "abdt", (ONE,), ("a", "b", "d", "d"), ("a", "d", "b", "t"),
                 ("a", "b", "b", "d"), ("t", "a", "c", "b"), ("a", "b", "c", "d"), ("q", "a", "b", "c"),
                 (None, "b", "d", "t"), ("a", None, "d", "t"), ("a", "b", ["d"], "t"), ("a", "b", "d", True),
                 (["a"], "b", "d", "t"), ("a", "b", {"t": 1}, "u"), ("a", "t", "u", "d"), ("c", "t", "b", "d")]
        for value in wrong_values() + wrong:
            for looks in ((), (ONE,), (ONE, FAR)):
                self.refused_itself(BadLook, value, sure, TWIG, looks, value)
                self.refused_itself(BadLook, value, shows_sure, TWIG, looks, value, value)
            self.refused_itself(BadLook, value, sure, TWIG, (ONE, contrary(ONE)), value)
            if value not in looks_of(FIVE):
                self.refused_itself(BadLook, value, sure, FIVE, (), value)

    def test_undrawable(self):
        for net in UNDRAWABLE:
            look = looks_of(net)[3]
            for looks in ((), (look,), tuple(sorted((look, contrary(look))))):
                for call, given in ((left, ()), (clash, ()), (needless, ()), (asks, ()), (sure, (look,)),
                                    (shows_sure, (look, None)), (shows_clash, (None,)), (shows_asks, (None,))):
                    self.refused(NoDrawing, None, call, net, looks, *given)
            self.refused(BadLooks, None, left, net, None)

    def test_against(self):
        both = tuple(sorted((ONE, contrary(ONE))))
        self.same(left(TWIG, both), 0)
        self.same(clash(TWIG, both), both)
        for call, given in ((needless, ()), (asks, ()), (sure, (FAR,)), (shows_sure, (FAR, ("so",))),
                            (shows_sure, (FAR, None)), (shows_asks, ((),)), (shows_asks, (None,))):
            self.refused(Against, None, call, TWIG, both, *given)

    def test_arguments_stay(self):
        before = (TWIG.text, TWIG.places, TWIG.ties)
        asks(TWIG, (ONE,))
        sure(TWIG, (ONE,), FAR)
        self.same((TWIG.text, TWIG.places, TWIG.ties), before)


class Shows(Looked):
    def each(self):
        for net, looks in ((TWIG, ()), (TWIG, (ONE,)), (TWIG, (ONE, FAR)), (FOUR, ()), (TENT, ()),
                           (TWIG, tuple(sorted((ONE, contrary(ONE), FAR)))),
                           (net_of("a b c d e f", "ac cb ad db ae eb af fb"), ()),
                           (net_of("a b c d e f", "ac cb ad db ae eb af fb"),
                            (("a", "c", "d", "e"), ("a", "c", "e", "f"), ("a", "c", "f", "d"), ("a", "d", "e", "f")))):
            yield net, all_drawings(net), looks

    def test_sure(self):
        words = set()
        for net, drawings, looks in self.each():
            if not drawings_having(drawings, looks):
                continue
            for look in looks_of(net)[::5]:
                value = sure(net, looks, look)
                words.add(value[0])
                values = list(bent(value)) + [("so",), ("not",), ("open", drawings[0], drawings[-1]), ("open",)]
                values += [("open", one, other) for one in drawings[:6] for other in drawings[:6]]
                for worse in values:
                    self.assertIs(shows_sure(net, looks, look, worse),
                                  right_sure(net, drawings, looks, look, worse), worse)
        self.assertEqual(words, {"so", "not", "open"})

    def test_sure_of_another_net(self):
        drawing = nth(FOUR, 0)
        self.assertIs(shows_sure(TWIG, (), ONE, ("open", drawing, drawing)), False)
        self.assertIs(shows_sure(TWIG, (), ONE, ("open", FLAT, nth(TWIG, 0))), False)

    def test_clash(self):
        for net, drawings, looks in self.each():
            values = list(bent(clash(net, looks)))
            values += [some for count in range(4) for some in itertools.combinations(looks, count)]
            values += [some[::-1] for some in itertools.combinations(looks, 2)]
            values += [some for some in itertools.combinations(looks_of(net)[:6], 2)]
            for worse in values:
                self.assertIs(shows_clash(net, looks, worse), right_clash(net, drawings, looks, worse), worse)

    def test_asks(self):
        seen = []
        for net, drawings, looks in self.each():
            if not drawings_having(drawings, looks):
                continue
            value = asks(net, looks)
            values = list(bent(value))
            values += [some for count in range(3) for some in itertools.combinations(looks_of(net), count)]
            values += [some[::-1] for some in itertools.combinations(looks_of(net), 2)][::3]
            values += [tuple(contrary(look) for look in value), tuple(sorted(contrary(look) for look in value))]
            for worse in values:
                seen.append(right_asks(net, drawings, looks, worse))
                self.assertIs(shows_asks(net, looks, worse), seen[-1], worse)
        self.assertLess(20, seen.count(True))
        self.assertLess(200, seen.count(False))

    def test_values_of_all_kinds(self):
        drawings = all_drawings(TWIG)
        for value in wrong_values() + [nested("tuple", ONE), (ONE,), [ONE], (list(ONE),), ((ONE,),), ("so", "not")]:
            for told in (value, (value,), ("open", value, value), ("open", drawings[0], value), (value, drawings[0]),
                         (ONE, value), (value, ONE), ("so", value), (("a", "b", "d", value),)):
                for looks in ((), (ONE,)):
                    self.assertIs(shows_sure(TWIG, looks, FAR, told), right_sure(TWIG, drawings, looks, FAR, told))
                    self.assertIs(shows_asks(TWIG, looks, told), right_asks(TWIG, drawings, looks, told))
                for looks in ((), (ONE, contrary(ONE))):
                    self.assertIs(shows_clash(TWIG, tuple(sorted(looks)), told),
                                  right_clash(TWIG, drawings, tuple(sorted(looks)), told))


if __name__ == "__main__":
    unittest.main()
