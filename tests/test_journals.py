"""Section 16, journals: sheets that are read from lines."""

import random
import re
import unittest

from alldrawn.errors import BadJournal, BadNames
from alldrawn.journals import read_journal
from alldrawn.sheets import Sheet
from tests.helper import FLAT, KITE, LETTERS, bent, nested, wrong_values
from tests.test_sheets import FOUR_NAMES, Held, Reckoned, are_names, some_deed, state_of, whole_state_of

FORMS = {"road": "road( [^ \n]+){4,}", "turn": "turn( [^ \n]+){3,}", "take": "take( [^ \n]+){2}",
         "drop": "drop( [^ \n]+)"}


def do_line(reckoned, line):
    """Do what a line tells: None if it is done, otherwise what is wrong."""
    if type(line) is not str:
        return "no string"
    for word, form in FORMS.items():
        if re.fullmatch(form, line):
            words = line.split(" ")[1:]
            given = {"road": lambda: ((words[0], words[1]), words[2], words[3], tuple(words[4:])),
                     "turn": lambda: (words[0], words[1], tuple(words[2:])), "take": lambda: words,
                     "drop": lambda: words}[word]()
            return reckoned.do(word, *given)
    return "no form"


def due_journal(names, lines):
    """What is reckoned of a journal: (number, None) of the first wrong line, or (0, what it leads to)."""
    reckoned = Reckoned(names)
    for number, line in enumerate(lines, start=1):
        if do_line(reckoned, line) is not None:
            return number, None
    return 0, reckoned


def grown_sheet(seed, count=14, names=FOUR_NAMES):
    """A sheet behind so many deeds."""
    chance = random.Random(seed)
    sheet, reckoned = Sheet(names), Reckoned(names)
    while sheet.done < count:
        deed = some_deed(reckoned, chance, 0.55)
        if reckoned.do(*deed) is None:
            getattr(sheet, deed[0])(*deed[1:])
    return sheet


def spoiled(line, words):
    """A line with one thing otherwise: words taken out, put in, exchanged; blanks and line feeds."""
    told = line.split(" ")
    for at in range(len(told)):
        yield " ".join(told[:at] + told[at + 1:])
        yield " ".join(told[:at + 1] + told[at:])
        for word in words:
            yield " ".join(told[:at] + [word] + told[at + 1:])
            yield " ".join(told[:at] + [word] + told[at:])
        if at:
            yield " ".join(told[:at - 1] + [told[at], told[at - 1]] + told[at + 1:])
            yield " ".join(told[:at]) + "  " + " ".join(told[at:])
            yield " ".join(told[:at]) + "\n" + " ".join(told[at:])
    yield from (line + " ", " " + line, line + "\n", "\n" + line, line.upper(), line + " q", line.replace(" ", ""), "")


OTHER_WORDS = ("a", "c", "e", "q", "zz", "", "Q", "road", "take", "undo", "a-b", "0", "toolongname")


class Journals(Held):
    def read(self, names, lines):
        """The sheet that is read, or the number of the line that is refused; as it is reckoned."""
        number, reckoned = due_journal(names, lines)
        if number:
            self.refused(BadJournal, number, read_journal, names, lines)
            return number
        sheet = read_journal(names, lines)
        self.assertIs(type(sheet), Sheet)
        self.whole(sheet, reckoned)
        self.same(sheet.journal, lines)
        return sheet

    def test_no_lines(self):
        for names in (FOUR_NAMES, ("zz", "a", "q"), tuple(LETTERS)):
            self.assertTrue(self.read(names, ()) == Sheet(names))

    def test_read_back(self):
        for seed in range(30):
            names = ("a", "b", "c", "zz", "d")[:3 + seed % 3]
            sheet = grown_sheet(seed, 10 + seed % 3 * 10, names)
            again = self.read(names, sheet.journal)
            self.assertTrue(again == sheet)
            self.assertEqual(whole_state_of(again), whole_state_of(sheet))

    def test_undone_one_by_one(self):
        sheet = grown_sheet(1, 40)
        again = read_journal(FOUR_NAMES, sheet.journal)
        while sheet.done:
            self.assertEqual(state_of(again), state_of(sheet))
            self.assertEqual(state_of(read_journal(FOUR_NAMES, sheet.journal)), state_of(sheet))
            sheet.undo()
            again.undo()
        self.assertTrue(again == Sheet(FOUR_NAMES))

    def test_gone_on_with(self):
        for seed in range(8):
            chance = random.Random(seed)
            lines = grown_sheet(seed).journal
            sheet = read_journal(FOUR_NAMES, lines)
            reckoned = due_journal(FOUR_NAMES, lines)[1]
            for _ in range(12):
                step = chance.choice(("deed", "deed", "undo", "redo"))
                self.do(sheet, reckoned, *(some_deed(reckoned, chance) if step == "deed" else (step,)))
            self.whole(sheet, reckoned)
            self.assertTrue(read_journal(FOUR_NAMES, sheet.journal) == sheet)

    def test_words_as_they_were_passed(self):
        sheet = Sheet(FOUR_NAMES)
        sheet.road(("b", "a"), "d", "b")
        sheet.road(("d", "b"), "b", "d", ("zz", "e"))
        sheet.take("b", "d")
        sheet.drop("c")
        sheet.road(("zz", "b"), "a", "e", ("c",))
        sheet.turn("a", "e", ("c",))
        self.same(sheet.journal, ("road b a d b", "road d b b d zz e", "take b d", "drop c", "road zz b a e c",
                                  "turn a e c"))
        self.assertTrue(self.read(FOUR_NAMES, sheet.journal) == sheet)

    def test_only_what_stands_is_in_it(self):
        sheet = Sheet(FOUR_NAMES)
        sheet.road(("a", "b"), "a", "c")
        sheet.tried(lambda held: held.take("a", "c"))
        sheet.road(("a", "b"), "a", "b", ("e",))
        sheet.undo()
        self.same(sheet.journal, ("road a b a c",))
        sheet.redo()
        self.same(sheet.journal, ("road a b a c", "road a b a b e"))

    def test_a_line_out_twice_exchanged_or_put_in(self):
        numbers = set()
        for seed in range(10):
            lines = grown_sheet(seed, 12).journal
            for at in range(len(lines)):
                values = [lines[:at] + lines[at + 1:], lines[:at + 1] + lines[at:], lines[:at + 1] + lines,
                          lines[at:] + lines[:at], lines[:at] + ("road a b a b zz",) + lines[at:],
                          lines[:at] + ("drop c",) + lines[at:], lines[:at] + ("undo",) + lines[at:],
                          lines[:at] + ("",) + lines[at:], lines[:at] + (None,) + lines[at:]]
                if at:
                    values.append(lines[:at - 1] + (lines[at], lines[at - 1]) + lines[at + 1:])
                for value in values:
                    found = self.read(FOUR_NAMES, value)
                    numbers.add(found if type(found) is int else 0)
        self.assertLessEqual(set(range(13)), numbers)

    def test_a_word_otherwise(self):
        read = refused = 0
        for seed in range(4):
            lines = grown_sheet(20 + seed, 9).journal
            for at, line in enumerate(lines):
                for other in spoiled(line, OTHER_WORDS):
                    if type(self.read(FOUR_NAMES, lines[:at] + (other,) + lines[at + 1:])) is int:
                        refused += 1
                    else:
                        read += 1
        self.assertLess(50, read)
        self.assertLess(1000, refused)


class Forms(Held):
    def test_forms(self):
        lines = ("road a b a c",)
        right = ["road a b a b e", "road c a a b e f g", "turn a c b", "turn a c b d", "take a c", "take c a", "drop b",
                 "drop d"]
        for line in right:
            self.same(read_journal(FOUR_NAMES, lines + (line,)).journal, lines + (line,))
        wrong = ["", " ", "road", "road a", "road a b", "road a b a", "turn", "turn a", "turn a c", "take", "take a",
                 "take a c d", "take a c ", "drop", "drop b d", "drop ", "Drop b", "DROP b", "drop\tb", "drop  b",
                 " drop b",
                 "drop b ", "drop b\n", "\ndrop b", "drop\nb", "undo", "redo", "lands", "many", "wheel a",
                 "sides a b c d e",
                 "ring a b c d", "dropb", "drop,b", "keep", "road a b a c e ", "road a b  a c e", "road a b a c e\nf",
                 "turn a c  b", "takes a c", "place a", "# drop b"]
        for line in wrong:
            self.refused(BadJournal, 2, read_journal, FOUR_NAMES, lines + (line,))
            self.refused(BadJournal, 2, read_journal, FOUR_NAMES, lines + (line, line))
            self.refused(BadJournal, 1, read_journal, FOUR_NAMES, (line,) + lines)

    def test_lines_that_are_refused(self):
        lines = ("road a b a c",)
        for line in ("road a b a c", "road a b a d", "road a b a a e", "road b d a c e", "road a b a c E",
                     "road a b a b a",
                     "road a b a b e e", "road a b a b e-f", "road a b a b toolongname", "road a b q b e",
                     "road a b a b e f g h i j k l m n o p q", "turn a c q", "turn c a b", "turn a c d b", "turn a b c",
                     "turn a c b b", "take a d", "take b d", "take a q", "take a a", "drop a", "drop q", "drop c",
                     "drop 0"):
            self.refused(BadJournal, 2, read_journal, FOUR_NAMES, lines + (line,))
            self.refused(BadJournal, 2, read_journal, FOUR_NAMES, lines + (line, None, "drop b"))

    def test_lines_that_are_no_strings(self):
        for value in wrong_values() + [("drop b",), ["drop b"], {"drop b": 1}, FLAT, Sheet(FOUR_NAMES)]:
            self.refused(BadJournal, 1, read_journal, FOUR_NAMES, (value,))
            self.refused(BadJournal, 2, read_journal, FOUR_NAMES, ("road a b a c", value))
            self.refused(BadJournal, 2, read_journal, FOUR_NAMES, ("road a b a c", value, value))

    def test_no_tuple(self):
        for value in wrong_values() + ["drop b", ["road a b a c"], {"road a b a c": 1}, "", [], {}, Sheet(FOUR_NAMES)]:
            if type(value) is not tuple:
                self.refused(BadJournal, 0, read_journal, FOUR_NAMES, value)
            elif value:
                self.refused(BadJournal, 1, read_journal, FOUR_NAMES, value)

    def test_nested_lines(self):
        lines = ("road a b a c", "drop b")
        for value in bent(lines):
            if type(value) is not tuple:
                self.refused(BadJournal, 0, read_journal, FOUR_NAMES, value)
                continue
            number, reckoned = due_journal(FOUR_NAMES, value)
            if number:
                self.refused(BadJournal, number, read_journal, FOUR_NAMES, value)
            else:
                self.held(read_journal(FOUR_NAMES, value), reckoned)
        self.refused(BadJournal, 1, read_journal, FOUR_NAMES, nested("tuple", "drop b"))

    def test_names_come_first(self):
        for value in wrong_values() + [("a", "b"), tuple(LETTERS) + ("q",), list(FOUR_NAMES), "abcd", ("a", "b", "a")]:
            if not are_names(value) or len(value) < 3:
                for lines in ((), None, ("road a b a c",), ("",), 0, [None], value):
                    self.refused_itself(BadNames, value, read_journal, value, lines)

    def test_arguments_stay(self):
        names, lines = ("a", "b", "c"), ("road a b a b d", "road a d a d e")
        sheet = read_journal(names, lines)
        sheet.undo()
        self.same((names, lines), (("a", "b", "c"), ("road a b a b d", "road a d a d e")))
        self.assertFalse(read_journal(names, lines) == sheet)
        self.assertTrue(read_journal(names, lines) == read_journal(("a", "b", "c"), tuple(list(lines))))

    def test_kite(self):
        self.assertEqual(read_journal(FOUR_NAMES, ("road a b a c",)).net, KITE)


if __name__ == "__main__":
    unittest.main()
