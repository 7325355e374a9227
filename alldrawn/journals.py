"""Lines that tell the deeds of a sheet, and sheets that are read from them."""

from alldrawn.errors import BadJournal, DrawError
from alldrawn.sheets import Sheet

# The forms of lines of deeds: the first word, how many words there are, and whether there can be more.
DEEDS = (("road", 5, True), ("turn", 4, True), ("take", 3, False), ("drop", 2, False))


def words_of(line):
    """The words of a line, with one blank between any two, as a list; [] if any value is no such line."""
    if not isinstance(line, str) or "\n" in line:
        return []
    words = line.split(" ")
    return [] if "" in words else words


def has_form(words, forms):
    """Whether words have one of some forms."""
    many = len(words)
    return any([words[:1] == [word] and (many == due or more and many > due) for word, due, more in forms])


def do_deed(sheet, words):
    """Do the deed to a sheet that words tell, which have one of the forms of deeds: the errors of the sheet."""
    word = words[0]
    if word == "road":
        sheet.road((words[1], words[2]), words[3], words[4], tuple(words[5:]))
    elif word == "turn":
        sheet.turn(words[1], words[2], tuple(words[3:]))
    elif word == "take":
        sheet.take(words[1], words[2])
    else:
        sheet.drop(words[1])


def read_journal(names, lines):
    """The Sheet over these names with which all was done that the lines tell: BadNames, BadJournal."""
    sheet = Sheet(names)
    if not isinstance(lines, tuple):
        raise BadJournal(0)
    for number, line in enumerate(lines, start=1):
        words = words_of(line)
        if not has_form(words, DEEDS):
            raise BadJournal(number)
        try:
            do_deed(sheet, words)
        except DrawError:
            raise BadJournal(number) from None
    return sheet
