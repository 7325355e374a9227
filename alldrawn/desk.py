"""A desk: a sheet to which one speaks by lines."""

from alldrawn.errors import BadJournal, BadLine, BadNames
from alldrawn.journals import DEEDS, do_deed, has_form, read_journal, words_of
from alldrawn.nets import check_place
from alldrawn.numbers import many
from alldrawn.sides import sides

# As in DEEDS: the forms of all other lines.
STEPS = (("undo", 1, False), ("redo", 1, False))
QUESTIONS = (("lands", 1, False), ("wheel", 2, False), ("many", 1, False), ("sides", 6, True))


def sheet_of(text):
    """The Sheet that a text tells, a line of its ring and those of a journal: BadJournal."""
    if not isinstance(text, str):
        raise BadJournal(0)
    ring, *lines = text.split("\n")
    word, *names = ring.split(" ")
    if word != "ring":
        raise BadJournal(1)
    try:
        return read_journal(tuple(names), tuple(lines))
    except BadNames:
        raise BadJournal(1) from None
    except BadJournal as refused:
        raise BadJournal(refused.value + 1) from None


def change(sheet, words):
    """Undo, redo, or another deed."""
    if words[0] == "undo":
        sheet.undo()
    elif words[0] == "redo":
        sheet.redo()
    else:
        do_deed(sheet, words)


def answer(sheet, words):
    """The answer to a question about a sheet."""
    word = words[0]
    if word == "lands":
        return ", ".join([" ".join(land) for land in sheet.drawing.lands])
    if word == "wheel":
        check_place(sheet.net, words[1])
        return " ".join(sheet.drawing.wheels[sheet.net.places.index(words[1])])
    if word == "many":
        return str(many(sheet.net))
    return sides(sheet.net, tuple(words[3:]), words[1], words[2])[0]


class Desk:
    """A desk with the sheet that a text tells."""

    def __init__(self, text):
        self.sheet = sheet_of(text)

    def say(self, line):
        """The answer to a line: BadLine, and the errors of the sheet and of the functions."""
        words = words_of(line)
        if has_form(words, QUESTIONS):
            return answer(self.sheet, words)
        if not has_form(words, DEEDS + STEPS):
            raise BadLine(line)
        change(self.sheet, words)
        return "done"
