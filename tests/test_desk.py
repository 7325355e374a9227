"""Section 16, desks: beside sheets, line by line."""

import itertools
import random
import re
import unittest

from alldrawn.desk import Desk
from alldrawn.errors import (BadJournal, BadLine, BadNames, BadRing, BadTie, BadTurning, DrawError, Few, Full, NoPlace,
                             NotOff, NothingToRedo, NothingToUndo, NotThere, NotTied, Tied)
from alldrawn.numbers import many
from alldrawn.sheets import Sheet
from alldrawn.sides import sides
from tests.helper import Case, FLAT, KITE, LETTERS, drawings_by_roads, rings_of, side_of, wrong_values
from tests.test_journals import FORMS, OTHER_WORDS, due_journal, grown_sheet, spoiled
from tests.test_sheets import FOUR_NAMES, Held, Reckoned, are_names, some_deed, state_of, whole_state_of

LINES = list(FORMS.values()) + ["undo", "redo", "lands", "many", "wheel [^ \n]+", "sides( [^ \n]+){5,}"]


def has_form(line):
    return type(line) is str and any(re.fullmatch(form, line) for form in LINES)


def text_at(names, lines=()):
    return "\n".join(["ring " + " ".join(names)] + list(lines))


def kite_desk():
    return Desk("ring a b c d\nroad a b a c")


def say_to_sheet(sheet, line):
    """What a desk must answer, done to the sheet by its own methods."""
    word, *words = line.split(" ")
    if word in ("undo", "redo"):
        getattr(sheet, word)()
    elif word == "road":
        sheet.road((words[0], words[1]), words[2], words[3], tuple(words[4:]))
    elif word == "turn":
        sheet.turn(words[0], words[1], tuple(words[2:]))
    elif word in ("take", "drop"):
        getattr(sheet, word)(*words)
    elif word == "lands":
        return ", ".join(" ".join(land) for land in sheet.drawing.lands)
    elif word == "many":
        return str(many(sheet.net))
    elif word == "wheel":
        if words[0] not in sheet.net.places:
            raise NoPlace(words[0])
        return " ".join(sheet.drawing.wheels[sheet.net.places.index(words[0])])
    else:
        return sides(sheet.net, tuple(words[2:]), words[0], words[1])[0]
    return "done"


class Said(Held):
    def say(self, desk, sheet, line):
        """Say a line to a desk, and do it to a sheet: the answer, or the error."""
        before = state_of(desk.sheet)
        try:
            due = say_to_sheet(sheet, line)
        except DrawError as error:
            self.refused(type(error), error.value, desk.say, line)
            self.assertEqual(state_of(desk.sheet), before)
            return error
        self.same(desk.say(line), due)
        self.assertTrue(desk.sheet == sheet)
        self.assertEqual(state_of(desk.sheet), state_of(sheet))
        return due

    def refused_unchanged(self, error, value, desk, line):
        before = whole_state_of(desk.sheet)
        self.refused(error, value, desk.say, line)
        self.assertEqual(whole_state_of(desk.sheet), before)


class Examples(Case):
    def test_as_in_the_document(self):
        desk = kite_desk()
        lines = ("lands", "road c b c b e", "wheel b", "sides d e a b c", "undo", "many")
        self.same([desk.say(line) for line in lines],
                  ["a b c, a c d, a d c b", "done", "a c e", "open", "done", "2"])


class Texts(Held):
    def test_rings(self):
        for names in (FOUR_NAMES, ("zz", "a", "longname"), tuple(LETTERS), tuple(LETTERS)[::-1]):
            desk = Desk(text_at(names))
            self.assertIs(type(desk.sheet), Sheet)
            self.whole(desk.sheet, Reckoned(names))

    def test_journals(self):
        for seed in range(20):
            names = ("a", "b", "c", "zz", "d")[:3 + seed % 3]
            sheet = grown_sheet(seed, 16, names)
            desk = Desk(text_at(names, sheet.journal))
            self.assertTrue(desk.sheet == sheet)
            self.whole(desk.sheet, due_journal(names, sheet.journal)[1])

    def test_no_string(self):
        for value in wrong_values() + [("ring a b c",), ["ring a b c"], b"ring a b c", {"ring a b c": 1}, kite_desk(),
                                       Sheet(FOUR_NAMES)]:
            if type(value) is not str:
                self.refused(BadJournal, 0, Desk, value)

    def test_rings_that_cannot_stand_there(self):
        for line in ("", " ", "ring", "ring ", "ring a", "ring a b", "ring a b a", "ring a b A", "ring a b c ",
                     " ring a b c",
                     "ring  a b c", "ring a  b c", "ring a b toolongname", "ring a b c-d", "ring a b 0", "rings a b c",
                     "Ring a b c", "a b c", "places a b c", "road a b a c", "ring\ta b c", "ring,a b c",
                     "ring " + " ".join(LETTERS) + " q", "ring a b c d a"):
            self.refused(BadJournal, 1, Desk, line)
            self.refused(BadJournal, 1, Desk, line + "\nroad a b a c")
            self.refused(BadJournal, 1, Desk, line + "\n\n")
        self.refused(BadJournal, 1, Desk, "\nring a b c d")

    def test_lines_that_cannot_stand_there(self):
        text = "ring a b c d\nroad a b a c"
        for line in ("", " ", "undo", "redo", "lands", "many", "wheel a", "sides a b c d e", "ring a b c d",
                     "road a b a c", "road", "drop b c", "drop a", "drop q", "take a d", "take a", "turn a c q",
                     "turn a c", "drop b ", " drop b", "drop  b"):
            self.refused(BadJournal, 3, Desk, text + "\n" + line)
            self.refused(BadJournal, 3, Desk, text + "\n" + line + "\nroad")
            self.refused(BadJournal, 4, Desk, text + "\ndrop b\n" + line)
        self.refused(BadJournal, 3, Desk, text + "\n")
        self.refused(BadJournal, 2, Desk, "ring a b c d\n")
        self.refused(BadJournal, 2, Desk, "ring a b c d\n\nroad a b a c")

    def test_each_line_otherwise(self):
        numbers = set()
        for seed in range(3):
            lines = grown_sheet(40 + seed, 8).journal
            for at, line in enumerate(lines):
                for other in spoiled(line, OTHER_WORDS[::2]):
                    told = lines[:at] + (other,) + lines[at + 1:]
                    # A line feed makes two lines of it.
                    number, reckoned = due_journal(FOUR_NAMES, "\n".join(told).split("\n"))
                    if number:
                        numbers.add(number)
                        self.refused(BadJournal, number + 1, Desk, text_at(FOUR_NAMES, told))
                    else:
                        self.held(Desk(text_at(FOUR_NAMES, told)).sheet, reckoned)
        self.assertLess(7, len(numbers))

    def test_by_name(self):
        self.same(Desk(text="ring a b c").say(line="lands"), "a b c, a c b")
        self.refused(BadJournal, 0, Desk, text=None)

    def test_desks_of_one_text(self):
        one, other = kite_desk(), kite_desk()
        one.say("undo")
        self.same((one.sheet.done, other.sheet.done), (0, 1))


class Lines(Said):
    def test_beside_sheets(self):
        answers = set()
        for seed in range(25):
            chance = random.Random(seed)
            names = ("a", "b", "c", "zz", "d")[:3 + seed % 3]
            desk, sheet = Desk(text_at(names)), Sheet(names)
            for _ in range(60):
                line = self.some_line(sheet, chance)
                if not has_form(line):
                    self.refused_unchanged(BadLine, line, desk, line)
                    answers.add("BadLine")
                    continue
                found = self.say(desk, sheet, line)
                answers.add(found if type(found) is str and found.isalpha() else type(found).__name__)
            self.assertEqual(whole_state_of(desk.sheet), whole_state_of(sheet))
        for word in ("done", "together", "open", "str", "NoPlace", "NotOff", "BadRing", "NothingToUndo",
                     "NothingToRedo", "BadTie", "NotThere", "NotTied", "BadNames", "Tied", "BadTurning", "BadLine"):
            self.assertIn(word, answers)

    def some_line(self, sheet, chance):
        """Any line, which is mostly one that has a form."""
        reckoned = Reckoned(FOUR_NAMES)
        drawing = sheet.drawing
        reckoned.moments = [(sheet.net.places, list(drawing.lands))]
        kind = chance.choice(("deed", "deed", "deed", "deed", "undo", "redo", "lands", "many", "wheel", "sides",
                              "sides", "spoiled"))
        if kind == "deed" or kind == "spoiled":
            word, *given = some_deed(reckoned, chance, 0.5)
            words = [word]
            for part in given:
                words += part if type(part) is tuple else [part]
            line = " ".join(str(part) for part in words)
            return line if kind == "deed" else chance.choice(list(spoiled(line, ("q", "a"))))
        if kind == "wheel":
            return "wheel " + chance.choice(sheet.net.places + ("q",))
        if kind == "sides":
            ring = chance.choice(sorted(drawing.lands) + [("a", "b", "q")])
            if len(sheet.net) < 8:
                ring = chance.choice(rings_of(sheet.net))
            off = [place for place in sheet.net.places if place not in ring] or ["a"]
            one, other = chance.choice(off), chance.choice(off + ["a"])
            return " ".join(("sides", one, other) + ring)
        return kind

    def test_sides(self):
        words = set()
        for lines in (("road a b a c t", "road t c t c u", "road u c u c v"),
                      ("road a b a c t", "road a b b t", "road c d d t", "road b a a c u", "road b a b u",
                       "road d c d u")):
            desk = Desk(text_at(FOUR_NAMES, lines))
            net = desk.sheet.net
            drawings = drawings_by_roads(net)
            for ring in rings_of(net):
                off = [place for place in net.places if place not in ring]
                for one, other in itertools.product(off, off):
                    seen = {side_of(drawing, ring, one) == side_of(drawing, ring, other) for drawing in drawings}
                    due = {(True,): "together", (False,): "apart", (False, True): "open"}[tuple(sorted(seen))]
                    self.same(desk.say(" ".join(("sides", one, other) + ring)), due)
                    words.add(due)
        self.assertEqual({"together", "apart", "open"}, words)

    def test_questions_change_nothing(self):
        desk = kite_desk()
        desk.say("road a c a c e")
        desk.say("undo")
        due = whole_state_of(desk.sheet)
        sheet = desk.sheet
        for line in ("lands", "wheel a", "wheel d", "many", "sides b d a c d", "sides d d a b c"):
            try:
                desk.say(line)
            except DrawError:
                pass
            self.assertIs(desk.sheet, sheet)
            self.assertEqual(whole_state_of(desk.sheet), due)
        self.same(desk.say("redo"), "done")

    def test_errors_of_the_sheet_and_of_the_functions(self):
        for line, error, value in (
                ("road a d a c", Tied, ("a", "c")), ("road b d a c", BadTie, ("b", "d")),
                ("road a b d c", NotThere, "d"),
                ("road a b a d", NotThere, "d"), ("road a b a a", NotThere, "a"), ("road q b a b", BadTie, ("q", "b")),
                ("road a b a b a", BadNames, ("a",)), ("road a b a b e e", BadNames, ("e", "e")),
                ("road a b a b E", BadNames, ("E",)), ("road a b a b toolongname", BadNames, ("toolongname",)),
                ("road a b a b " + " ".join("efghijklmnopq"), Full, 16), ("turn a c q", BadTurning, ("a", "c", ("q",))),
                ("turn c a b", BadTurning, ("c", "a", ("b",))), ("turn a b c", BadTurning, ("a", "b", ("c",))),
                ("turn a c d b", BadTurning, ("a", "c", ("d", "b"))), ("take b d", BadTie, ("b", "d")),
                ("take a q", BadTie, ("a", "q")), ("take a b", NotTied, "c"), ("drop q", NoPlace, "q"),
                ("drop a", NotTied, "c"), ("redo", NothingToRedo, None), ("wheel q", NoPlace, "q"),
                ("wheel A", NoPlace, "A"), ("sides b d a b c", NotOff, "b"), ("sides d c a b c", NotOff, "c"),
                ("sides q d a b c", NotOff, "q"), ("sides d q a b c", NotOff, "q"), ("sides d d a b q", BadRing,
                                                                                    ("a", "b", "q")),
                ("sides q q a b d", BadRing, ("a", "b", "d")), ("sides b b a c c", BadRing, ("a", "c", "c")),
                ("sides a a a b c d e f g h i j k l m n o p q", BadRing, tuple("abcdefghijklmnopq"))):
            with self.subTest(line=line):
                self.refused_unchanged(error, value, kite_desk(), line)
        small = Desk("ring a b c")
        self.refused_unchanged(Few, 3, small, "drop a")
        self.refused_unchanged(NothingToUndo, None, small, "undo")
        self.refused_unchanged(NothingToRedo, None, small, "redo")

    def test_bad_lines(self):
        desk = kite_desk()
        right = ["road a b a b e", "road a b a b e f", "turn a c b", "turn a c b d", "take a c", "drop b", "undo",
                 "redo", "lands", "many", "wheel a", "sides d d a b c", "sides b b a c d"]
        for line in right:
            for other in spoiled(line, OTHER_WORDS):
                before = whole_state_of(desk.sheet)
                if has_form(other):
                    with desk.sheet.trial():
                        sheet = desk.sheet.copy()
                        self.say(desk, sheet, other)
                else:
                    self.refused_itself(BadLine, other, desk.say, other)
                self.assertEqual(whole_state_of(desk.sheet), before)

    def test_lines_of_each_number_of_words(self):
        least = {"road": 4, "turn": 3, "take": 2, "drop": 1, "undo": 0, "redo": 0, "lands": 0, "many": 0, "wheel": 1,
                 "sides": 5}
        for word in list(least) + ["ring", "keep", "tie", "Lands", "side", "a", "trial", "copy", "done"]:
            for count in range(9):
                line = " ".join([word] + ["q"] * count)
                due = least.get(word, 99)
                right = count == due or count > due and word in ("road", "turn", "sides")
                self.assertIs(has_form(line), right)
                desk = kite_desk()
                if not right:
                    self.refused_unchanged(BadLine, line, desk, line)
                else:
                    self.say(desk, kite_desk().sheet, line)

    def test_no_strings(self):
        desk = kite_desk()
        for value in wrong_values() + [("lands",), ["lands"], {"lands": 1}, b"lands", desk, desk.sheet, FLAT, KITE]:
            self.refused_itself(BadLine, value, desk.say, value)

    def test_line_feeds(self):
        desk = kite_desk()
        for line in ("lands\n", "\nlands", "drop\nb", "road a b\na b e", "undo\nredo", "drop b\n", "sides d d a b\nc",
                     "\n", "wheel \n", "wheel a\nb"):
            self.refused_unchanged(BadLine, line, desk, line)

    def test_words_of_any_signs(self):
        desk = kite_desk()
        self.refused_unchanged(NoPlace, "!#\\~", desk, "drop !#\\~")
        self.refused_unchanged(NoPlace, "\t", desk, "wheel \t")
        self.refused_unchanged(BadNames, ("''",), desk, "road a b a b ''")

    def test_great_numbers(self):
        sheet = Sheet(tuple("acb") + ("d",))
        for name in "efghijklmnop":
            sheet.road(("a", "c"), "a", "b", (name,))
        desk = Desk(text_at(("a", "c", "b", "d"), sheet.journal))
        self.same(desk.say("many"), "6227020800")

    def test_the_sheet_of_a_desk(self):
        # One can do to it what can be done to sheets; what is said goes on from there.
        desk = kite_desk()
        desk.sheet.road(("c", "b"), "c", "b", ("e",))
        self.same(desk.say("wheel b"), "a c e")
        self.same(desk.say("undo"), "done")
        with desk.sheet.trial():
            desk.say("undo")
            self.same(desk.say("lands"), "a b c d, a d c b")
        self.same(desk.say("lands"), "a b c, a c d, a d c b")
        self.same(desk.say("redo"), "done")

    def test_names_that_cannot_be_told(self):
        self.assertTrue(are_names(("lands", "undo", "many")))
        desk = Desk("ring lands undo many road")
        self.same(desk.say("lands"), "lands road many undo, lands undo many road")
        self.same(desk.say("road lands undo lands many take"), "done")
        self.same(desk.say("wheel many"), "undo take road")


if __name__ == "__main__":
    unittest.main()
