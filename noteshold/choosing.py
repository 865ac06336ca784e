"""The chooser: the one step that everybody knows."""

from noteshold.choices import first
from noteshold.errors import BadText
from noteshold.index import Index, row_read, wish_read
from noteshold.steps import Run
from noteshold.versions import version_of

WISH = ("read", "wish")
ODD = ("odd", ())


def chosen(tree):
    def shown(look):
        return (tree.shown(look),)

    sights, _, end = chooser_way(shown)
    return Run(sights, end[0], end[1])


def wishes_in(text):
    """The wishes with this text, None if it is that of none, or no text."""
    if text is None:
        return None
    try:
        return wish_read(text)
    except BadText:
        return None


def chooser_way(shown):
    """The chooser's sights, the look that it is not shown, and its end: one of these two is None.

    shown gives an answer in a tuple for a look, None where there is no answer yet.
    """
    told = shown(WISH)
    if told is None:
        return ([], WISH, None)
    sights = [(WISH, told[0])]
    wishes = wishes_in(told[0])
    if wishes is None:
        return (sights, None, ODD)
    line = []
    add_lists(line, [package for package, _, _ in wishes])
    rows = {}
    place = 0
    while place < len(line):
        look = line[place]
        told = shown(look)
        if told is None:
            return (sights, look, None)
        sights.append((look, told[0]))
        place += 1
        if look[0] == "list":
            line[place:place] = reads_behind(look, told[0])
        else:
            add_row(rows, line, look, told[0])
    return (sights, None, end_of(first(Index(rows), wishes)))


def add_lists(line, packages):
    """Puts the lists of packages at the end of the line of looks, each once."""
    for package in packages:
        look = ("list", "index/" + package)
        if look not in line:
            line.append(look)


def reads_behind(look, answer):
    """The reads of the versions that a list shows, the greatest one first."""
    versions = [version_of(mark) for mark in answer or ()]
    told = sorted([version for version in versions if version is not None], reverse=True)
    return [("read", f"{look[1]}/{version}") for version in told]


def add_row(rows, line, look, text):
    """Keeps the row of a text, if it is one, and puts the packages that it names at the end of the line."""
    row = None if text is None else row_read(text)[0]
    if row is not None:
        _, package, version = look[1].split("/")
        rows[package, version_of(version)] = row
        add_lists(line, [other for _, options, _ in row.needs for other, _ in options])


def end_of(choice):
    if choice is None:
        return ("none", ())
    return ("right", tuple([(package, str(choice[package])) for package in choice]))
