"""Commands: rows of text that do deeds at a desk."""

from roundminutes.desk import Desk
from roundminutes.errors import BadRow, MinuteError
from roundminutes.texts import read_times
from roundminutes.words import values_of

# What follows the verb; later and earlier take one or more names, aim the text of a timetable.
COMMANDS = {
    "push": ("word", "signed"),
    "place": ("word", "number"),
    "hold": ("word",),
    "free": ("word",),
    "change": ("number", "number", "number"),
    "choose": ("word",),
    "step": (),
    "undo": (),
    "redo": (),
}


def kinds_of(verb, count):
    """Return the kinds of the words that follow the verb if there are so many, or None without such a command."""
    if verb in ("later", "earlier"):
        return ("word",) * max(1, count)
    return COMMANDS.get(verb)


def do_deed(desk, verb, values):
    """Do the deed of a command with these values."""
    match verb:
        case "later":
            desk.later(*values)
        case "earlier":
            desk.earlier(*values)
        case "push":
            desk.push(*values)
        case "place":
            desk.place(*values)
        case "hold":
            desk.hold(*values)
        case "free":
            desk.free(*values)
        case "change":
            desk.change(*values)
        case "choose":
            desk.choose(*values)
        case "step":
            desk.step()
        case "undo":
            desk.undo()
        case "redo":
            desk.redo()


def do_row(desk, row):
    """Do the command of a row, and return True; or return False if the row has none of the forms."""
    if row.startswith("aim "):
        desk.aim_at(read_times(row.partition(" ")[2]))
        return True
    words = row.split(" ")
    kinds = kinds_of(words[0], len(words) - 1)
    values = None if kinds is None else values_of(words[1:], kinds)
    if values is None:
        return False
    do_deed(desk, words[0], values)
    return True


def do_rows(desk, rows):
    """Do the commands of the rows in order."""
    for number, row in enumerate(rows, start=1):
        try:
            done = do_row(desk, row)
        except MinuteError as error:
            raise BadRow(number, error) from error
        if not done:
            raise BadRow(number, None)


def run(desk, text, *, whole=False):
    """Do the commands of a text, all or none of them if they are run as a whole, and return their number."""
    rows = text.split("\n") if text != "" else []
    if whole:
        with desk.trial():
            do_rows(desk, rows)
    else:
        do_rows(desk, rows)
    return len(rows)


def replay(net, times, rows):
    """Return a new desk that has done the rows of a log."""
    desk = Desk(net, times)
    do_rows(desk, rows)
    return desk
