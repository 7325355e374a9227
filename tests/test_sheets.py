"""Section 15: sheets, held against lands that are reckoned by themselves."""

import itertools
import random
import re
import unittest

from alldrawn.drawings import Drawing
from alldrawn.errors import (BadNames, BadTie, BadTurning, DrawError, Few, Full, NoPlace, NoTrial, NothingToRedo,
                             NothingToUndo, NotThere, NotTied, Tied)
from alldrawn.nets import Net
from alldrawn.numbers import many, number_of
from alldrawn.sheets import Sheet
from alldrawn.turning import turns
from tests.helper import (Case, FLAT, KITE, LETTERS, bent, groups, lands_of, nested, not_tied, own_ties, parted,
                          text_of, wrong_values)
from tests.test_turning import right_turning, slow_turned

FOUR_NAMES = ("a", "b", "c", "d")
SIXTEEN = tuple(LETTERS)


def from_place(cycle, place):
    at = cycle.index(place)
    return cycle[at:] + cycle[:at]


def are_names(value):
    """Whether a value is a tuple of unlike names."""
    if type(value) is not tuple or not all(type(name) is str and re.fullmatch("[a-z]{1,8}", name) for name in value):
        return False
    return len(set(value)) == len(value)


class Reckoned:
    """What a sheet must be like: the places and the lands of each moment, as plain values.

    Each deed tells (error, value) that are due, or None if it is done.
    """

    def __init__(self, names):
        self.moments, self.lines, self.done = [(tuple(names), [tuple(names), tuple(names)[::-1]])], [], 0

    def now(self):
        return self.moments[self.done]

    def state(self):
        return list(self.moments), list(self.lines), self.done

    def restore(self, state):
        self.moments, self.lines, self.done = list(state[0]), list(state[1]), state[2]

    def copy(self):
        other = Reckoned(self.moments[0][0])
        other.restore(self.state())
        return other

    def ties(self):
        """The ties, in sequence."""
        places, lands = self.now()
        tied = [tie for land in lands for tie in own_ties(land)]
        return tuple(pair for pair in itertools.combinations(places, 2) if set(pair) in tied)

    def wheels(self):
        """For each place its wheel, from the first neighbour in sequence on."""
        places, lands = self.now()
        wheels = []
        for place in places:
            after = {}
            for land in lands:
                if place in land:
                    told = from_place(land, place)
                    after[told[-1]] = told[1]
            wheel = [min(after, key=places.index)]
            while len(wheel) < len(after):
                wheel.append(after[wheel[-1]])
            wheels.append(tuple(wheel))
        return tuple(wheels)

    def told_lands(self):
        places, lands = self.now()
        return tuple(sorted(from_place(land, min(land, key=places.index)) for land in lands))

    def net(self):
        return Net(text_of(self.now()[0], self.ties()))

    def drawing(self):
        return Drawing(self.net(), self.wheels())

    def beside(self, one, other):
        """The land beside a tie."""
        return [land for land in self.now()[1] if one in land and from_place(land, one)[1] == other][0]

    def is_tie(self, value):
        if type(value) is not tuple or len(value) != 2 or not all(type(end) is str for end in value):
            return False
        return set(value) in [set(tie) for tie in self.ties()]

    def do(self, word, *given):
        if word in ("undo", "redo"):
            return self.back() if word == "undo" else self.again()
        due = {"road": self.road, "turn": self.turn, "take": self.take, "drop": self.drop}[word](*given)
        if type(due[0]) is type:
            return due
        places, lands, words = due
        self.moments = self.moments[:self.done + 1] + [(tuple(places), list(lands))]
        self.lines = self.lines[:self.done] + [" ".join(words)]
        self.done += 1
        return None

    def back(self):
        if self.done == 0:
            return NothingToUndo, None
        self.done -= 1
        return None

    def again(self):
        if self.done == len(self.lines):
            return NothingToRedo, None
        self.done += 1
        return None

    def road(self, tie, one, other, inner=()):
        places, lands = self.now()
        if not self.is_tie(tie):
            return BadTie, tie
        land = self.beside(*tie)
        if type(one) is not str or one not in land:
            return NotThere, one
        if type(other) is not str or other not in land or one == other:
            return NotThere, other
        if not are_names(inner) or set(inner) & set(places):
            return BadNames, inner
        if len(places) + len(inner) > 16:
            return Full, 16
        if not inner and self.is_tie((one, other)):
            return Tied, (one, other)
        left = [kept for kept in lands if kept != land]
        return (places + inner, left + parted(land, (one,) + inner + (other,)),
                ("road",) + tie + (one, other) + inner)

    def turn(self, a, b, some):
        drawing = self.drawing()
        if not right_turning(drawing, (a, b, some)):
            return BadTurning, (a, b, some)
        behind = slow_turned(drawing, (a, b, some))
        lands = [tuple(one for one, _ in land) for land in lands_of(behind.net, behind.wheels)]
        return self.now()[0], lands, ("turn", a, b) + some

    def take(self, one, other):
        if not self.is_tie((one, other)):
            return BadTie, (one, other)
        places, lands = self.now()
        due = not_tied(places, [tie for tie in self.ties() if set(tie) != {one, other}])
        if due:
            return (NotTied,) + due
        ahead, back = self.beside(one, other), self.beside(other, one)
        whole = from_place(ahead, other) + from_place(back, one)[1:-1]
        return places, [land for land in lands if land not in (ahead, back)] + [whole], ("take", one, other)

    def drop(self, place):
        places, lands = self.now()
        if type(place) is not str or place not in places:
            return NoPlace, place
        if len(places) == 3:
            return Few, 3
        left = tuple(other for other in places if other != place)
        due = not_tied(left, [tie for tie in self.ties() if place not in tie])
        if due:
            return (NotTied,) + due
        walks = {walk[1]: walk[1:] for walk in (from_place(land, place) for land in lands if place in land)}
        whole = walks[min(walks)]
        while whole[-1] != whole[0]:
            whole += walks[whole[-1]][1:]
        return left, [land for land in lands if place not in land] + [whole[:-1]], ("drop", place)


def state_of(sheet):
    """All that is seen of a sheet, as plain values."""
    return (sheet.drawing.net.text, sheet.drawing.wheels, sheet.drawing.lands, sheet.net.text, sheet.done,
            sheet.journal, len(sheet))


def whole_state_of(sheet):
    """All that is seen of a sheet, of what can be undone, and of what can be done again."""
    seen = [state_of(sheet)]
    ahead, back = sheet.copy(), sheet.copy()
    for copy, step, error in ((ahead, ahead.redo, NothingToRedo), (back, back.undo, NothingToUndo)):
        try:
            while True:
                step()
                seen.append(state_of(copy))
        except error:
            seen.append(error)
    return seen


class Stopped(Exception):
    """An error of the tests themselves."""


class Held(Case):
    def held(self, sheet, reckoned):
        """The sheet is just as it is reckoned."""
        places, ties, lands = reckoned.now()[0], reckoned.ties(), reckoned.told_lands()
        self.same(sheet.net.places, places)
        self.same(sheet.net.ties, ties)
        self.same(sheet.net.text, text_of(places, ties))
        self.assertIs(type(sheet.drawing), Drawing)
        self.assertEqual(sheet.drawing.net, sheet.net)
        self.same(sheet.drawing.wheels, reckoned.wheels())
        self.same(sheet.drawing.lands, lands)
        self.same(sheet.done, reckoned.done)
        self.same(sheet.journal, tuple(reckoned.lines[:reckoned.done]))
        self.same(len(sheet), len(places))
        self.assertIs(lands[0] in sheet, True)
        self.assertIs(list(lands[0]) in sheet, False)
        self.assertIs(lands[0][1:] + lands[0][:1] in sheet, False)

    def do(self, sheet, reckoned, word, *given):
        """Do what is told to both: whether it is done, and not refused."""
        due = reckoned.do(word, *given)
        call = getattr(sheet, word)
        if due is None:
            self.assertIsNone(call(*given))
        else:
            before = state_of(sheet)
            self.refused(due[0], due[1], call, *given)
            self.assertEqual(state_of(sheet), before)
        return due is None

    def done(self, sheet, reckoned, word, *given):
        self.assertTrue(self.do(sheet, reckoned, word, *given), (word, given))

    def in_block(self, sheet, reckoned, kept, left, inside):
        """Have something done in a block, which is kept or not, and left by an error or not."""
        state = reckoned.state()
        try:
            with sheet.trial():
                inside()
                if kept:
                    sheet.keep()
                if left:
                    raise Stopped
        except Stopped:
            pass
        if left or not kept:
            reckoned.restore(state)

    def whole(self, sheet, reckoned):
        """The sheet is as it is reckoned, and so is all that can be undone and done again."""
        self.held(sheet, reckoned)
        due, copy = reckoned.copy(), sheet.copy()
        while due.do("redo") is None:
            copy.redo()
            self.held(copy, due)
        self.refused(NothingToRedo, None, copy.redo)
        while due.do("undo") is None:
            copy.undo()
            self.held(copy, due)
        self.refused(NothingToUndo, None, copy.undo)


def new_names(chance, places, count):
    pool = [name for name in SIXTEEN + ("zz", "quux", "longname", "x", "y", "z") if name not in places]
    return tuple(chance.sample(pool, count))


def some_road(reckoned, chance):
    places, lands = reckoned.now()
    land = chance.choice(sorted(lands))
    at = chance.randrange(len(land))
    one, other = chance.sample(land, 2)
    return "road", (land[at - 1], land[at]), one, other, new_names(chance, places, chance.choice((0, 0, 0, 0, 1, 1, 2)))


def some_turn(reckoned, chance):
    places, ties = reckoned.now()[0], reckoned.ties()
    pairs = list(itertools.combinations(places, 2))
    chance.shuffle(pairs)
    for a, b in pairs:
        off = [place for place in places if place not in (a, b)]
        pieces = groups(off, [tie for tie in ties if a not in tie and b not in tie])
        if len(pieces) > 1 or chance.random() < 0.1:
            taken = set().union(*chance.sample(pieces, chance.randrange(1, len(pieces) + 1)))
            return "turn", a, b, tuple(place for place in off if place in taken)
    return "turn", places[0], places[1], places[2:]


def some_wrong(reckoned, chance):
    """A deed, mostly one that is refused."""
    places = reckoned.now()[0]
    value = chance.choice(wrong_values() + [places, places[0], places[:2], "q"])
    _, tie, one, other, inner = some_road(reckoned, chance)
    _, a, b, some = some_turn(reckoned, chance)
    return chance.choice((("road", value, one, other, inner), ("road", tie, value, other), ("road", tie, one, value),
                          ("road", tie, one, other, value), ("road", tie, one, one, inner), ("road", tie, one, other),
                          ("road", tie[::-1], one, other, inner), ("road", tie, one, other, inner + inner[:1]),
                          ("turn", value, b, some), ("turn", a, value, some), ("turn", a, b, value),
                          ("turn", b, a, some), ("turn", a, b, some[::-1]), ("turn", a, b, some[1:]),
                          ("take", value, one), ("take", one, value), ("take", one, one), ("take", one, other),
                          ("drop", value)))


def some_deed(reckoned, chance, grow=0.6):
    pick = chance.random()
    if pick < grow:
        return some_road(reckoned, chance)
    if pick < grow + 0.15:
        return some_turn(reckoned, chance)
    if pick < grow + 0.25:
        return ("take",) + chance.choice(reckoned.ties())[::chance.choice((1, -1))]
    if pick < grow + 0.3:
        return "drop", chance.choice(reckoned.now()[0])
    return some_wrong(reckoned, chance)


class Examples(Case):
    def test_as_in_the_document(self):
        sheet = Sheet(("a", "b", "c", "d"))
        self.same([sheet.drawing.lands, sheet.road(("a", "b"), "a", "c"), len(sheet), many(sheet.net),
                   sheet.tried(lambda held: held.take("c", "a")), sheet.done],
                  [(("a", "b", "c", "d"), ("a", "d", "c", "b")), None, 4, 2, None, 1])
        self.same([sheet.road(("c", "b"), "c", "b", ("e",)), sheet.net.places, sheet.drawing.land("e", "b"),
                   sheet.journal],
                  [None, ("a", "b", "c", "d", "e"), ("a", "d", "c", "e", "b"), ("road a b a c", "road c b c b e")])


class Names(Held):
    def test_rings(self):
        for count in range(3, 17):
            for names in (SIXTEEN[:count], SIXTEEN[:count][::-1], ("longname", "zz") + SIXTEEN[2:count]):
                sheet = Sheet(names)
                self.whole(sheet, Reckoned(names))
                self.same(many(sheet.net), 1)
                self.same((sheet.done, sheet.journal), (0, ()))

    def test_wrong_names(self):
        wrong = [(), ("a",), ("a", "b"), ("a", "b", "a"), ("a", "b", "A"), ("a", "b", ""), ("a", "b", "c d"),
                 ("a", "b", "abcdefghi"), ("a", "b", "c", None), ("a", "b", "c", True), ("a", "b", "c", 0),
                 ("a", "b", "c", ("d",)), ("a", "b", "c", ["d"]), ["a", "b", "c"], "abc", ("abc",),
                 {"a": 1, "b": 2, "c": 3}, SIXTEEN + ("q",), SIXTEEN + SIXTEEN, SIXTEEN[:15] + ("a",),
                 (("a", "b", "c"),), ("a", "b", "c\n"),
                 ("a", "b", "c", KITE), ("a", "b", FLAT), nested("tuple", "a"), tuple(["a", "b", "1"])]
        for value in [value for value in wrong_values() if value != ("a", "b", "q")] + wrong:
            with self.subTest(value=value):
                self.refused_itself(BadNames, value, Sheet, value)
        for value in bent(FOUR_NAMES):
            if are_names(value) and len(value) >= 3:
                self.held(Sheet(value), Reckoned(value))
            else:
                self.refused_itself(BadNames, value, Sheet, value)
        self.refused(BadNames, 0, Sheet, names=0)

    def test_what_is_in_it(self):
        sheet = Sheet(FOUR_NAMES)
        self.assertTrue(FOUR_NAMES in sheet and ("a", "d", "c", "b") in sheet)
        for value in wrong_values() + [("b", "c", "d", "a"), ("a", "b", "c"), list(FOUR_NAMES), "abcd", "a", sheet,
                                       (FOUR_NAMES,), sheet.drawing]:
            self.assertIs(value in sheet, False)


class Deeds(Held):
    def test_sheets_that_grow(self):
        grown = deeds = 0
        for seed in range(40):
            chance = random.Random(seed)
            names = SIXTEEN[:3 + seed % 4] if seed % 3 else ("d", "zz", "a")
            sheet, reckoned = Sheet(names), Reckoned(names)
            for _ in range(110):
                if sheet.done < 40:
                    self.do(sheet, reckoned, *some_deed(reckoned, chance, 0.7 if seed % 2 else 0.55))
                    self.held(sheet, reckoned)
            self.whole(sheet, reckoned)
            grown += len(sheet) == 16
            deeds += sheet.done == 40
            self.assertEqual(sheet.drawing, reckoned.drawing())
        self.assertLess(5, min(grown, deeds))

    def test_each_deed(self):
        done = {word: [0, 0] for word in ("road", "turn", "take", "drop")}
        for seed in range(40):
            chance = random.Random(100 + seed)
            sheet, reckoned = Sheet(FOUR_NAMES), Reckoned(FOUR_NAMES)
            for _ in range(30):
                deed = some_deed(reckoned, chance, 0.5)
                done[deed[0]][self.do(sheet, reckoned, *deed)] += 1
                self.held(sheet, reckoned)
        for word in done:
            self.assertLess(10, min(done[word]), word)

    def test_each_road_of_a_sheet(self):
        # Through each land, told by each of its ties, between each two of its places.
        sheet, reckoned = Sheet(FOUR_NAMES), Reckoned(FOUR_NAMES)
        self.done(sheet, reckoned, "road", ("a", "b"), "a", "c")
        self.done(sheet, reckoned, "road", ("c", "b"), "c", "b", ("e", "f"))
        for one, other in sheet.net.ties + tuple(tie[::-1] for tie in sheet.net.ties):
            for start, end in itertools.product(sheet.net.places, sheet.net.places):
                for inner in ((), ("q",), ("z", "g")):
                    if self.do(sheet, reckoned, "road", (one, other), start, end, inner):
                        self.held(sheet, reckoned)
                        self.do(sheet, reckoned, "undo")
        self.whole(sheet, reckoned)

    def test_each_turning_of_a_sheet(self):
        sheet, reckoned = Sheet(FOUR_NAMES), Reckoned(FOUR_NAMES)
        self.done(sheet, reckoned, "road", ("a", "b"), "a", "c")
        self.done(sheet, reckoned, "road", ("a", "d"), "a", "c", ("e", "f"))
        right = 0
        for a, b in itertools.product(sheet.net.places, sheet.net.places):
            for count in range(5):
                for some in itertools.combinations(sheet.net.places, count):
                    if self.do(sheet, reckoned, "turn", a, b, some):
                        right += 1
                        self.held(sheet, reckoned)
                        self.do(sheet, reckoned, "undo")
        self.assertLess(10, right)

    def test_each_tie_and_place_goes(self):
        for seed in range(12):
            chance = random.Random(seed)
            sheet, reckoned = Sheet(FOUR_NAMES), Reckoned(FOUR_NAMES)
            for _ in range(9):
                self.do(sheet, reckoned, *some_road(reckoned, chance))
            for one, other in itertools.product(sheet.net.places, sheet.net.places):
                if self.do(sheet, reckoned, "take", one, other):
                    self.held(sheet, reckoned)
                    self.do(sheet, reckoned, "undo")
            for place in sheet.net.places:
                if self.do(sheet, reckoned, "drop", place):
                    self.held(sheet, reckoned)
                    self.do(sheet, reckoned, "undo")
            self.held(sheet, reckoned)

    def test_down_to_three_places(self):
        sheet, reckoned = Sheet(SIXTEEN), Reckoned(SIXTEEN)
        for at in range(2, 15):
            self.done(sheet, reckoned, "road", ("a", SIXTEEN[at - 1]), "a", SIXTEEN[at])
        for place in SIXTEEN[1:14]:
            self.done(sheet, reckoned, "drop", place)
            self.held(sheet, reckoned)
        self.same(sheet.net.places, ("a", "o", "p"))
        self.refused(Few, 3, sheet.drop, "a")
        self.refused(NotTied, "a", sheet.take, "o", "p")
        self.whole(sheet, reckoned)

    def test_names_come_again(self):
        # A place that went can come again, behind all others.
        sheet, reckoned = Sheet(FOUR_NAMES), Reckoned(FOUR_NAMES)
        self.done(sheet, reckoned, "road", ("a", "b"), "a", "c")
        self.done(sheet, reckoned, "drop", "b")
        self.done(sheet, reckoned, "road", ("d", "a"), "d", "c", ("b",))
        self.same(sheet.net.places, ("a", "c", "d", "b"))
        self.same(sheet.journal, ("road a b a c", "drop b", "road d a d c b"))
        self.whole(sheet, reckoned)

    def test_inner_places_in_their_order(self):
        sheet = Sheet(FOUR_NAMES)
        sheet.road(("c", "d"), "b", "d", ("zz", "m", "e"))
        self.same(sheet.net.places, ("a", "b", "c", "d", "zz", "m", "e"))
        self.same(sheet.journal, ("road c d b d zz m e",))
        self.assertTrue(sheet.net.tied("b", "zz") and sheet.net.tied("m", "e") and sheet.net.tied("e", "d"))
        self.same(sheet.drawing.land("b", "c"), ("b", "c", "d", "e", "m", "zz"))
        # Beside what is tied already, there can be a road over a place.
        sheet.road(("a", "b"), "b", "a", ("q",))
        self.same(sheet.drawing.land("b", "a"), ("a", "d", "c", "b"))
        self.same(sheet.drawing.land("q", "a"), ("a", "b", "q"))

    def test_up_to_sixteen_places(self):
        sheet = Sheet(SIXTEEN[:4])
        sheet.road(("a", "b"), "a", "c", SIXTEEN[4:15])
        self.refused(Full, 16, sheet.road, ("a", "b"), "a", "b", ("p", "q"))
        self.same(len(sheet), 15)
        sheet.road(("a", "b"), "a", "b", ("p",))
        self.same(len(sheet), 16)
        self.refused(Full, 16, sheet.road, ("b", "a"), "b", "a", ("q",))
        self.refused(Full, 16, sheet.road, ("b", "a"), "b", "a", ("q", "r", "s"))
        self.refused(Tied, ("b", "a"), sheet.road, ("b", "a"), "b", "a")
        self.same(sheet.done, 2)


class Refused(Held):
    def sheet(self):
        sheet = Sheet(FOUR_NAMES)
        sheet.road(("a", "b"), "a", "c")
        sheet.road(("c", "b"), "c", "b", ("e",))
        sheet.take("a", "c")
        sheet.undo()
        return sheet

    def check(self, sheet, error, value, call, *given):
        before = whole_state_of(sheet)
        self.refused_itself(error, value, call, *given)
        self.assertEqual(whole_state_of(sheet), before)

    def check_same(self, sheet, error, value, call, *given):
        before = whole_state_of(sheet)
        self.refused(error, value, call, *given)
        self.assertEqual(whole_state_of(sheet), before)

    def test_road_ties(self):
        sheet = self.sheet()
        wrong = [("a", "e"), ("a", "a"), ("b", "d"), ("q", "a"), ("a", "q"), ["a", "b"], "ab", ("a", "b", "c"), ("a",),
                 ("a", ["b"]), (None, "b"), ("a", True), {"a": "b"}, (("a", "b"),)]
        for value in wrong_values() + wrong:
            for rest in (("a", "c"), ("a", "b", ("q",)), (None, None, None), ("q", "q"), (value, value, value)):
                self.check(sheet, BadTie, value, sheet.road, value, *rest)

    def test_road_ends(self):
        sheet = self.sheet()
        self.same(sheet.drawing.land("a", "b"), ("a", "b", "c"))
        for value in wrong_values() + ["d", "e", "q", ("a",), ["a"]]:
            for rest in (("c",), ("c", ("q",)), (value,), (None, None), ("d",), ("b", ("b", "b")), ("b", SIXTEEN)):
                self.check(sheet, NotThere, value, sheet.road, ("a", "b"), value, *rest)
            for rest in ((), (("q",),), (None,), (("a",),), (SIXTEEN,)):
                self.check(sheet, NotThere, value, sheet.road, ("a", "b"), "a", value, *rest)
        for place in ("a", "b", "c"):
            for rest in ((), (("q",),), (None,), (("a", "a"),)):
                self.check(sheet, NotThere, place, sheet.road, ("a", "b"), place, place, *rest)

    def test_road_inner_places(self):
        sheet = self.sheet()
        wrong = [["q"], "q", "", None, {}, {"q": 1}, 0, True, ("q", "q"), ("a",), ("q", "e"), ("q", ""), ("Q",),
                 ("q r",), ("abcdefghi",), ("q", None), ("q", ["r"]), (("q",),), ("q", 1), ("q", "r", "q"),
                 ("q-",), ("q\n",),
                 tuple(LETTERS), tuple("fghijklmnopqrstf"), (KITE,), (sheet,), sheet, ("q", "a", "q")]
        for value in wrong_values() + wrong:
            if value == () and type(value) is tuple:
                continue
            # Between tied places, and others; nothing of the errors that come behind is told.
            for one, other in (("a", "b"), ("a", "c"), ("b", "c")):
                self.check(sheet, BadNames, value, sheet.road, ("a", "b"), one, other, value)
                self.check(sheet, BadNames, value, sheet.road, ("b", "c"), other, one, value)

    def test_road_full(self):
        sheet = self.sheet()
        for count in range(12, 20):
            inner = tuple("fghijklmnopqrstuvwxyz"[:count])
            self.check_same(sheet, Full, 16, sheet.road, ("a", "b"), "a", "b", inner)
        inner = tuple("fghijklmnop")
        self.assertIsNone(sheet.road(("a", "b"), "a", "b", inner))
        self.same(len(sheet), 16)

    def test_road_tied(self):
        sheet = self.sheet()
        for one, other in (("a", "b"), ("b", "a"), ("a", "c"), ("c", "a"), ("b", "c")):
            self.check_same(sheet, Tied, (one, other), sheet.road, ("a", "b"), one, other)
            self.check_same(sheet, Tied, (one, other), sheet.road, ("a", "b"), one, other, ())
        # Tied elsewhere, in a land that both have.
        sheet.road(("c", "d"), "a", "c", ("q",))
        self.check_same(sheet, Tied, ("a", "c"), sheet.road, ("c", "q"), "a", "c")
        # In no land that has both: NotThere comes first.
        self.check_same(sheet, NotThere, "d", sheet.road, ("a", "b"), "a", "d")

    def test_turn(self):
        sheet = self.sheet()
        wrong = [("a", "c", ()), ("c", "a", ("d",)), ("a", "c", ["d"]), ("a", "c", "d"), ("a", "a", ("d",)),
                 ("a", "c", ("d", "b")), ("a", "c", ("b",)), ("a", "c", ("e",)), ("a", "q", ("d",)), ("a", "c", ("q",)),
                 ("a", "c", ("d", "d")), ("a", "c", ("d", "a")), ("a", "b", ("c", "d")), (None, None, None), (0, 1, 2)]
        for value in wrong:
            self.check_same(sheet, BadTurning, value, sheet.turn, *value)
        for value in wrong_values():
            for told in ((value, "c", ("d",)), ("a", value, ("d",)), ("a", "c", value), ("a", "c", (value,)),
                         (value, value, value)):
                self.check_same(sheet, BadTurning, told, sheet.turn, *told)

    def test_take(self):
        sheet = self.sheet()
        for one, other in (("a", "a"), ("b", "d"), ("a", "e"), ("a", "q"), ("q", "q"), (None, "a"), ("a", ["b"]),
                           (("a", "b"), "b"), (0, 1), (True, False), (sheet, KITE)):
            self.check_same(sheet, BadTie, (one, other), sheet.take, one, other)
        for value in wrong_values():
            self.check_same(sheet, BadTie, (value, "a"), sheet.take, value, "a")
            self.check_same(sheet, BadTie, ("a", value), sheet.take, "a", value)
        # The first place, in sequence, without which the others would not hang together.
        for (one, other), due in ((("a", "d"), "c"), (("d", "a"), "c"), (("c", "d"), "a"), (("e", "c"), "b"),
                                  (("b", "e"), "c")):
            self.check_same(sheet, NotTied, due, sheet.take, one, other)

    def test_drop(self):
        sheet = self.sheet()
        for value in wrong_values() + ["q", ("a",), ["a"], sheet]:
            self.check(sheet, NoPlace, value, sheet.drop, value)
        for place, due in (("a", "c"), ("c", "a")):
            self.check_same(sheet, NotTied, due, sheet.drop, place)
        small = Sheet(("a", "b", "c"))
        self.check_same(small, NoPlace, "d", small.drop, "d")
        for place in "abc":
            self.check_same(small, Few, 3, small.drop, place)

    def test_nothing_to_undo_or_redo(self):
        sheet = Sheet(FOUR_NAMES)
        for _ in range(2):
            self.check_same(sheet, NothingToUndo, None, sheet.undo)
            self.check_same(sheet, NothingToRedo, None, sheet.redo)
        sheet = self.sheet()
        sheet.redo()
        self.check_same(sheet, NothingToRedo, None, sheet.redo)
        for _ in range(3):
            sheet.undo()
        self.check_same(sheet, NothingToUndo, None, sheet.undo)

    def test_a_refused_deed_is_none(self):
        # What was taken back can still be done again behind deeds that are refused.
        sheet = self.sheet()
        due = whole_state_of(sheet)
        for call, given in ((sheet.road, (("a", "b"), "a", "c")), (sheet.turn, ("a", "c", ("e",))),
                            (sheet.take, ("a", "d")), (sheet.drop, ("a",)), (sheet.road, (("a", "e"), "a", "e")),
                            (sheet.keep, ())):
            with self.assertRaises(DrawError):
                call(*given)
            self.assertEqual(whole_state_of(sheet), due)
        sheet.redo()
        self.same(sheet.journal[-1], "take a c")

    def test_several_wrong_at_once(self):
        sheet = self.sheet()
        for tie, one, other, inner, error, value in (
                (("a", "e"), "q", "q", ("a", "a"), BadTie, ("a", "e")),
                (("a", "b"), "d", "d", ("a", "a"), NotThere, "d"),
                (("a", "b"), "a", "a", ("q", "q"), NotThere, "a"),
                (("a", "b"), "a", "e", SIXTEEN, NotThere, "e"),
                (("a", "b"), "a", "b", SIXTEEN + ("q",), BadNames, SIXTEEN + ("q",)),
                (("a", "b"), "a", "b", tuple("fghijklmnopqf"), BadNames, tuple("fghijklmnopqf")),
                (("a", "b"), "a", "b", tuple("fghijklmnopq"), Full, 16),
                (("a", "b"), "a", "b", (), Tied, ("a", "b"))):
            self.check_same(sheet, error, value, sheet.road, tie, one, other, inner)

    def test_all_wrong_arguments(self):
        # Each argument right or wrong, in all ways: the first one that is wrong is told.
        sheet = self.sheet()
        reckoned = Reckoned(FOUR_NAMES)
        for deed in (("road", ("a", "b"), "a", "c"), ("road", ("c", "b"), "c", "b", ("e",)), ("take", "a", "c"),
                     ("undo",)):
            reckoned.do(*deed)
        self.held(sheet, reckoned)
        ties = (("a", "b"), ("c", "a"), ("e", "b"), ["a", "b"], ("a", "e"), None)
        ends = ("a", "b", "c", "e", "q", True, ["a"])
        inners = ((), ("q",), ("q", "f"), ("a",), ["q"], None, tuple("fghijklmnopq"), 0)
        done = 0
        for tie, one, other, inner in itertools.product(ties, ends, ends, inners):
            if self.do(sheet, reckoned, "road", tie, one, other, inner):
                done += 1
                self.held(sheet, reckoned)
                self.done(sheet, reckoned, "undo")
        self.assertLess(10, done)


class UndoAndRedo(Held):
    DEEDS = (("road", ("a", "b"), "a", "c"), ("road", ("b", "a"), "b", "d", ("e",)),
             ("turn", "a", "c", ("b", "d", "e")))
    REFUSED = ("drop", "q")

    def block(self, sheet, reckoned, kept, left, *deeds):
        """A block with some deeds, kept or not, left by an error or not."""
        def inside():
            for deed in deeds:
                self.do(sheet, reckoned, *deed)
            self.held(sheet, reckoned)

        self.in_block(sheet, reckoned, kept, left, inside)

    def steps(self, sheet, reckoned):
        one, two, three = self.DEEDS
        return [lambda: self.do(sheet, reckoned, *one), lambda: self.do(sheet, reckoned, *two),
                lambda: self.do(sheet, reckoned, *self.REFUSED),
                lambda: self.do(sheet, reckoned, "undo"), lambda: self.do(sheet, reckoned, "redo"),
                lambda: self.block(sheet, reckoned, True, False, three, ("undo",), two),
                lambda: self.block(sheet, reckoned, False, False, ("undo",), two, ("undo",), ("undo",)),
                lambda: self.block(sheet, reckoned, True, True, ("undo",), three)]

    def test_all_sequences(self):
        for chosen in itertools.product(range(8), repeat=4):
            sheet, reckoned = Sheet(FOUR_NAMES), Reckoned(FOUR_NAMES)
            self.do(sheet, reckoned, *self.DEEDS[0])
            steps = self.steps(sheet, reckoned)
            for number in chosen:
                steps[number]()
            if sum(chosen) % 5:
                self.held(sheet, reckoned)
            else:
                self.whole(sheet, reckoned)

    def test_long_sequences(self):
        for seed in range(40):
            chance = random.Random(seed)
            sheet, reckoned = Sheet(FOUR_NAMES), Reckoned(FOUR_NAMES)
            for _ in range(60):
                step = chance.choice(("deed", "deed", "deed", "undo", "undo", "redo"))
                self.do(sheet, reckoned, *(some_deed(reckoned, chance) if step == "deed" else (step,)))
                self.held(sheet, reckoned)
            self.whole(sheet, reckoned)

    def test_the_last_one_first(self):
        sheet = Sheet(FOUR_NAMES)
        states = [state_of(sheet)]
        for deed in self.DEEDS:
            getattr(sheet, deed[0])(*deed[1:])
            states.append(state_of(sheet))
        for number in (2, 1, 0):
            self.assertIsNone(sheet.undo())
            self.assertEqual(state_of(sheet), states[number])
        for number in (1, 2, 3):
            self.assertIsNone(sheet.redo())
            self.assertEqual(state_of(sheet), states[number])
        sheet.undo()
        sheet.undo()
        sheet.road(("c", "d"), "c", "a", ("q",))
        self.refused(NothingToRedo, None, sheet.redo)
        self.same(sheet.journal, ("road a b a c", "road c d c a q"))


class Blocks(Held):
    def test_held_is_the_sheet(self):
        sheet = Sheet(FOUR_NAMES)
        with sheet.trial() as held:
            self.assertIs(held, sheet)
            with held.trial() as within:
                self.assertIs(within, sheet)

    def test_left_as_it_was(self):
        sheet = Sheet(FOUR_NAMES)
        sheet.road(("a", "b"), "a", "c")
        sheet.road(("a", "c"), "a", "c", ("e",))
        sheet.undo()
        due = whole_state_of(sheet)
        drawing = sheet.drawing
        with sheet.trial():
            sheet.undo()
            sheet.road(("a", "b"), "b", "d", ("q", "r"))
            self.refused(NothingToRedo, None, sheet.redo)
            self.same(sheet.journal, ("road a b b d q r",))
        self.assertEqual(whole_state_of(sheet), due)
        self.assertEqual((sheet.drawing, sheet.net), (drawing, drawing.net))
        self.same((sheet.done, sheet.journal), (1, ("road a b a c",)))
        sheet.redo()
        self.same(sheet.journal, ("road a b a c", "road a c a c e"))

    def test_kept(self):
        sheet = Sheet(FOUR_NAMES)
        sheet.road(("a", "b"), "a", "c")
        with sheet.trial():
            sheet.undo()
            self.assertIsNone(sheet.keep())
            sheet.road(("a", "b"), "b", "d")
            self.assertIsNone(sheet.keep())
        self.same(sheet.journal, ("road a b b d",))
        sheet.undo()
        self.same(sheet.net.ties, Sheet(FOUR_NAMES).net.ties)
        sheet.redo()
        self.refused(NothingToRedo, None, sheet.redo)

    def test_left_by_an_error(self):
        for kept in (False, True):
            for error in (Stopped, KeyError, KeyboardInterrupt, BadTie):
                sheet = Sheet(FOUR_NAMES)
                sheet.road(("a", "b"), "a", "c")
                due = whole_state_of(sheet)
                raised = error("told")
                with self.assertRaises(error) as caught:
                    with sheet.trial():
                        sheet.road(("a", "b"), "a", "b", ("q",))
                        if kept:
                            sheet.keep()
                        raise raised
                self.assertIs(caught.exception, raised)
                self.assertEqual(whole_state_of(sheet), due)
                self.refused(NoTrial, None, sheet.keep)

    def test_left_by_a_refused_deed(self):
        sheet = Sheet(FOUR_NAMES)
        with self.assertRaises(Tied):
            with sheet.trial():
                sheet.road(("a", "b"), "a", "c")
                sheet.keep()
                sheet.road(("a", "b"), "a", "c")
        self.same(sheet.done, 0)
        # One that is caught within the block does not leave it.
        with sheet.trial():
            sheet.road(("a", "b"), "a", "c")
            self.refused(Tied, ("a", "c"), sheet.road, ("a", "b"), "a", "c")
            sheet.keep()
        self.same(sheet.done, 1)

    def test_left_by_return_break_and_continue(self):
        sheet = Sheet(FOUR_NAMES)

        def returned(kept):
            with sheet.trial():
                sheet.road(("a", "b"), "a", "c")
                if kept:
                    sheet.keep()
                return sheet.done

        self.same(returned(False), 1)
        self.same(sheet.done, 0)
        self.same(returned(True), 1)
        self.same(sheet.done, 1)
        for kept in (False, True):
            for _ in range(2):
                with sheet.trial():
                    sheet.undo()
                    if kept:
                        sheet.keep()
                    break
        self.same(sheet.done, 0)

    def test_outside_of_all_blocks(self):
        sheet = Sheet(FOUR_NAMES)
        self.refused(NoTrial, None, sheet.keep)
        with sheet.trial():
            with sheet.trial():
                sheet.keep()
            sheet.keep()
        self.refused(NoTrial, None, sheet.keep)
        # What is not entered is no block.
        sheet.trial()
        self.refused(NoTrial, None, sheet.keep)

    def test_keep_is_for_the_innermost(self):
        for outer, inner in itertools.product((False, True), (False, True)):
            sheet = Sheet(FOUR_NAMES)
            with sheet.trial():
                sheet.road(("a", "b"), "a", "c")
                with sheet.trial():
                    sheet.road(("c", "a"), "c", "a", ("e",))
                    if inner:
                        sheet.keep()
                self.same(sheet.done, 2 if inner else 1)
                if outer:
                    sheet.keep()
            self.same(sheet.done, (2 if inner else 1) if outer else 0)

    def test_keep_of_an_inner_block_is_not_one_of_the_outer(self):
        sheet = Sheet(FOUR_NAMES)
        with sheet.trial():
            sheet.road(("a", "b"), "a", "c")
            sheet.keep()
            with sheet.trial():
                sheet.road(("c", "a"), "c", "a", ("e",))
            self.same(sheet.done, 1)
            sheet.undo()
        self.same(sheet.done, 0)
        sheet.redo()
        self.same(sheet.done, 1)

    def test_as_when_the_block_was_entered(self):
        # What trial() returns can be entered later on.
        sheet = Sheet(FOUR_NAMES)
        block = sheet.trial()
        sheet.road(("a", "b"), "a", "c")
        with block as held:
            self.assertIs(held, sheet)
            sheet.undo()
        self.same(sheet.done, 1)

    def run_block(self, sheet, reckoned, chance, depth):
        for _ in range(chance.randrange(1, 7)):
            step = chance.choice(("deed", "deed", "undo", "undo", "redo", "block"))
            if step == "block" and depth < 3:
                self.run_within(sheet, reckoned, chance, depth + 1)
            elif step != "block":
                self.do(sheet, reckoned, *(some_deed(reckoned, chance) if step == "deed" else (step,)))
            self.held(sheet, reckoned)

    def run_within(self, sheet, reckoned, chance, depth):
        self.in_block(sheet, reckoned, chance.random() < 0.5, chance.random() < 0.3,
                      lambda: self.run_block(sheet, reckoned, chance, depth))

    def test_blocks_within_blocks(self):
        for seed in range(60):
            chance = random.Random(seed)
            sheet, reckoned = Sheet(FOUR_NAMES), Reckoned(FOUR_NAMES)
            for _ in range(4):
                self.run_block(sheet, reckoned, chance, 0)
                self.run_within(sheet, reckoned, chance, 1)
                self.whole(sheet, reckoned)
            self.refused(NoTrial, None, sheet.keep)

    def test_three_deep(self):
        # Each of three blocks kept or not, left by an error that the next one catches, or not.
        for kept in itertools.product((False, True), repeat=3):
            for left in itertools.product((False, True), repeat=3):
                sheet, reckoned = Sheet(FOUR_NAMES), Reckoned(FOUR_NAMES)
                self.done(sheet, reckoned, "road", ("a", "b"), "a", "c")
                self.enter(sheet, reckoned, list(zip(kept, left)))
                self.whole(sheet, reckoned)

    def enter(self, sheet, reckoned, waiting):
        def inside():
            self.do(sheet, reckoned, "undo")
            self.do(sheet, reckoned, "road", ("c", "b"), "c", "b", ("efg"[len(waiting) - 1],))
            self.enter(sheet, reckoned, waiting[1:])
            self.do(sheet, reckoned, "road", ("b", "a"), "b", "d", ("xyz"[len(waiting) - 1],))
            self.held(sheet, reckoned)

        if waiting:
            self.in_block(sheet, reckoned, *waiting[0], inside)
            self.held(sheet, reckoned)


class Tried(Held):
    def test_what_look_returns(self):
        sheet = Sheet(FOUR_NAMES)
        for value in wrong_values() + [sheet, lambda: 0, Stopped, object()]:
            self.assertIs(sheet.tried(lambda held: value), value)
            self.assertIs(sheet.tried(look=lambda held: value, keep=True), value)
        self.assertIs(sheet.tried(lambda held: held), sheet)
        self.same(sheet.done, 0)

    def test_look_is_called_once_with_the_sheet(self):
        sheet, seen = Sheet(FOUR_NAMES), []
        self.assertIsNone(sheet.tried(seen.append))
        self.assertEqual(len(seen), 1)
        self.assertIs(seen[0], sheet)

    def test_keep_true_alone(self):
        for keep in (False, 1, 0, None, "True", "keep", (), (True,), [True], {True: True}, 2, KITE):
            sheet = Sheet(FOUR_NAMES)
            self.assertIsNone(sheet.tried(lambda held: held.road(("a", "b"), "a", "c"), keep=keep))
            self.same(sheet.done, 0)
            self.refused(NothingToRedo, None, sheet.redo)
        self.assertIsNone(sheet.tried(lambda held: held.road(("a", "b"), "a", "c"), keep=True))
        self.same(sheet.journal, ("road a b a c",))
        sheet.undo()

    def test_keep_by_name_only(self):
        sheet = Sheet(FOUR_NAMES)
        with self.assertRaises(TypeError):
            sheet.tried(lambda held: None, True)

    def test_errors_pass_on(self):
        sheet = Sheet(FOUR_NAMES)
        sheet.road(("a", "b"), "a", "c")
        due = whole_state_of(sheet)
        for error in (Stopped, ValueError, KeyError, NotThere, KeyboardInterrupt):
            for keep in (False, True):
                raised = error("told")

                def look(held):
                    held.undo()
                    held.keep()
                    raise raised

                with self.assertRaises(error) as caught:
                    sheet.tried(look, keep=keep)
                self.assertIs(caught.exception, raised)
                self.assertEqual(whole_state_of(sheet), due)
                self.refused(NoTrial, None, sheet.keep)
        self.refused(Tied, ("a", "c"), sheet.tried, lambda held: held.road(("a", "b"), "a", "c"))

    def test_look_keeps_by_itself(self):
        sheet = Sheet(FOUR_NAMES)
        for keep in (False, True, None):

            def look(held):
                held.road(("a", "b"), "a", "b", (held.net.places[-1] + "x",))
                held.keep()
                return "kept"

            self.same(sheet.tried(look, keep=keep), "kept")
        self.same(sheet.done, 3)

    def test_look_copies(self):
        sheet = Sheet(FOUR_NAMES)

        def look(held):
            held.road(("a", "b"), "a", "c")
            return held.copy()

        copy = sheet.tried(look)
        self.same((sheet.done, copy.done), (0, 1))
        self.refused(NoTrial, None, copy.keep)
        copy.undo()
        self.assertTrue(copy == sheet)

    def test_within_one_another(self):
        sheet = Sheet(FOUR_NAMES)

        def inner(held):
            held.road(("c", "a"), "c", "a", ("e",))
            return held.done

        def outer(held):
            held.road(("a", "b"), "a", "c")
            return held.tried(inner), held.done, held.tried(inner, keep=True), held.done

        self.same(sheet.tried(outer), (2, 1, 2, 2))
        self.same(sheet.done, 0)
        self.same(sheet.tried(outer, keep=True), (2, 1, 2, 2))
        self.same(sheet.journal, ("road a b a c", "road c a c a e"))

    def test_look_leaves_a_block_of_its_own(self):
        sheet = Sheet(FOUR_NAMES)

        def look(held):
            with held.trial():
                held.road(("a", "b"), "a", "c")
            held.road(("a", "b"), "b", "d")
            return held.journal

        self.same(sheet.tried(look, keep=True), ("road a b b d",))
        self.same(sheet.journal, ("road a b b d",))


class Copies(Held):
    def test_equal_in_all(self):
        for seed in range(25):
            chance = random.Random(seed)
            sheet, reckoned = Sheet(FOUR_NAMES), Reckoned(FOUR_NAMES)
            for _ in range(20):
                step = chance.choice(("deed", "deed", "deed", "undo", "redo"))
                self.do(sheet, reckoned, *(some_deed(reckoned, chance) if step == "deed" else (step,)))
            due = whole_state_of(sheet)
            copy, other = sheet.copy(), reckoned.copy()
            self.assertIsNot(copy, sheet)
            self.assertIs(type(copy), Sheet)
            self.assertTrue(copy == sheet)
            self.whole(copy, other)
            # Each goes on by itself.
            for _ in range(10):
                self.do(copy, other, *some_deed(other, chance))
            self.whole(copy, other)
            self.assertEqual(whole_state_of(sheet), due)
            behind = whole_state_of(copy)
            for _ in range(10):
                self.do(sheet, reckoned, *some_deed(reckoned, chance))
            self.whole(sheet, reckoned)
            self.assertEqual(whole_state_of(copy), behind)

    def test_outside_of_all_blocks(self):
        sheet = Sheet(FOUR_NAMES)
        with sheet.trial():
            sheet.road(("a", "b"), "a", "c")
            copy = sheet.copy()
            self.refused(NoTrial, None, copy.keep)
            with copy.trial():
                copy.road(("c", "a"), "c", "a", ("e",))
                self.same((sheet.done, copy.done), (1, 2))
                copy.keep()
        self.same((sheet.done, copy.done), (0, 2))
        self.same(copy.journal, ("road a b a c", "road c a c a e"))
        # A block of the copy is none of the sheet.
        with copy.trial():
            self.refused(NoTrial, None, sheet.keep)

    def test_copies_of_copies(self):
        sheets = [Sheet(FOUR_NAMES)]
        for name in ("e", "f", "g", "h"):
            sheets.append(sheets[-1].copy())
            sheets[-1].road(("a", "b"), "a", "b", (name,))
        self.same([sheet.done for sheet in sheets], [0, 1, 2, 3, 4])
        for number, sheet in enumerate(sheets):
            for _ in range(number):
                sheet.undo()
            self.assertTrue(sheet == sheets[0])


class Equal(Held):
    def test_equal_if_their_drawings_are(self):
        # Other deeds lead to the same drawing.
        one, other = Sheet(FOUR_NAMES), Sheet(FOUR_NAMES)
        self.assertTrue(one == other)
        one.road(("a", "b"), "a", "c")
        self.assertFalse(one == other)
        self.assertTrue(one != other)
        other.road(("b", "c"), "c", "a")
        self.assertTrue(one == other)
        self.assertNotEqual(one.journal, other.journal)
        one.turn("a", "c", ("b",))
        self.assertTrue(one == other)
        one.undo()
        one.turn("a", "c", ("b", "d"))
        self.assertFalse(one == other)
        other.take("c", "a")
        other.road(("a", "b"), "a", "c")
        self.assertFalse(one == other)
        other.take("c", "a")
        other.road(("b", "a"), "a", "c")
        self.assertTrue(one == other)
        self.same((one.done, other.done), (2, 5))

    def test_other_sequence_of_places(self):
        one = Sheet(("a", "b", "c"))
        other = Sheet(("b", "c", "a"))
        self.assertFalse(one == other)
        # The same places and wheels, come about otherwise.
        third = Sheet(("a", "b", "d"))
        third.road(("a", "b"), "b", "a", ("c",))
        third.drop("d")
        self.assertTrue(third == one)
        self.same((third.done, one.done), (2, 0))

    def test_nothing_else(self):
        sheet = Sheet(FOUR_NAMES)
        for value in wrong_values() + [sheet.drawing, sheet.net, FOUR_NAMES, sheet.journal, sheet.drawing.lands]:
            self.assertIs(sheet == value, False)
            self.assertIs(value == sheet, False)
            self.assertIs(sheet != value, True)

    def test_turnings_lead_from_sheet_to_sheet(self):
        for seed in range(8):
            chance = random.Random(seed)
            sheet, reckoned = Sheet(FOUR_NAMES), Reckoned(FOUR_NAMES)
            for _ in range(8):
                self.do(sheet, reckoned, *some_road(reckoned, chance))
            other = sheet.copy()
            for _ in range(4):
                self.do(other, reckoned, *some_turn(reckoned, chance))
            for a, b, some in turns(sheet.drawing, other.drawing):
                sheet.turn(a, b, some)
            self.assertTrue(sheet == other)
            self.same(number_of(sheet.drawing), number_of(other.drawing))


class Live(Held):
    """(g): a sheet is at each moment where its deeds led, however it came there."""

    def test_only_what_stands(self):
        for seed in range(30):
            chance = random.Random(1000 + seed)
            sheet, reckoned = Sheet(FOUR_NAMES), Reckoned(FOUR_NAMES)
            stand = []
            for _ in range(40):
                deed = some_deed(reckoned, chance)
                pick = chance.random()
                if pick < 0.2:
                    sheet.tried(lambda held: self.try_deed(held, deed))
                elif pick < 0.35 and stand:
                    sheet.undo()
                    reckoned.do("undo")
                    stand.pop()
                elif self.do(sheet, reckoned, *deed):
                    stand.append(deed)
            other = Sheet(FOUR_NAMES)
            for deed in stand:
                getattr(other, deed[0])(*deed[1:])
            self.assertEqual(state_of(other), state_of(sheet))
            self.assertTrue(other == sheet)

    def try_deed(self, sheet, deed):
        try:
            getattr(sheet, deed[0])(*deed[1:])
        except DrawError:
            pass

    def test_arguments_stay(self):
        sheet = Sheet(FOUR_NAMES)
        names, inner = ("a", "b", "c"), ("q", "r")
        Sheet(names)
        sheet.road(("a", "b"), "a", "c", inner)
        self.same((names, inner), (("a", "b", "c"), ("q", "r")))

    def test_what_was_seen_stays(self):
        # The drawing of a moment, its net, and the journal do not change with the sheet.
        sheet = Sheet(FOUR_NAMES)
        sheet.road(("a", "b"), "a", "c")
        drawing, net, journal = sheet.drawing, sheet.net, sheet.journal
        told = (drawing.net.text, drawing.wheels, drawing.lands, net.text, journal)
        sheet.road(("c", "a"), "c", "a", ("e",))
        sheet.drop("b")
        self.same((drawing.net.text, drawing.wheels, drawing.lands, net.text, journal), told)
        self.same(sheet.journal, journal + ("road c a c a e", "drop b"))


if __name__ == "__main__":
    unittest.main()
