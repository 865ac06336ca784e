"""Texts of stages and deeds."""

from noteshold.deeds import plain_deed
from noteshold.lines import file_line, file_read, is_behind_last, is_last_path, number_read, read_lines
from noteshold.plain import is_name, is_path
from noteshold.stages import Stage, is_house
from noteshold.trees import Tree


def write_stage(stage):
    lines = []
    for name, tree in stage.shelves().items():
        lines.append(f"shelf {name} {len(tree)}\n")
        lines.extend([file_line(path, text) for path, text in tree.files().items()])
    lines.extend([" ".join(["house", name, *told]) + "\n" for name, told in stage.houses().items()])
    return "".join(lines)


class StageReader:
    """Reads shelves with their files, then houses."""

    def __init__(self):
        self.trees = {}
        self.homes = {}
        self.last = ""
        self.pairs = []
        self.left = 0

    def takes(self, line):
        if self.left > 0:
            return self.takes_file(line)
        words = line.split(" ")
        if words[0] == "shelf" and len(words) == 3 and not self.homes:
            return self.takes_shelf(words[1], number_read(words[2]))
        return words[0] == "house" and len(words) == 5 and self.takes_house(words[1], words[2:])

    def takes_shelf(self, name, many):
        if not is_name(name) or name <= self.last or many is None:
            return False
        self.last = name
        self.pairs = []
        self.left = many
        self.trees[name] = Tree()
        return True

    def takes_file(self, line):
        pair = file_read(line)
        if pair is None or not is_behind_last(pair[0], self.pairs) or self.left > 1 and is_last_path(pair[0]):
            return False
        self.pairs.append(pair)
        self.left = self.left - 1
        if self.left == 0:
            self.trees[self.last] = Tree(dict(self.pairs))
        return True

    def takes_house(self, name, told):
        if not is_name(name) or self.homes and name <= self.last or not is_house(told, self.trees):
            return False
        self.last = name
        self.homes[name] = tuple(told)
        return True

    def can_end(self):
        return self.left == 0


def read_stage(text):
    told = read_lines(text, StageReader())
    return Stage(told.trees, told.homes)


def write_deeds(deeds):
    return "".join([deed_text(deed) for deed in deeds])


def deed_text(deed):
    if deed[0] != "edit":
        return " ".join([str(part) for part in deed]) + "\n"
    lines = [f"edit {deed[1]} {len(deed[2])}\n"]
    for change in deed[2]:
        lines.append(f"put {file_line(change[1], change[2])}" if change[0] == "put" else f"drop {change[1]}\n")
    return "".join(lines)


class DeedsReader:
    """Reads deeds, edits with their changes."""

    def __init__(self):
        self.done = []
        self.shelf = ""
        self.changes = []
        self.left = 0

    def takes(self, line):
        if self.left > 0:
            return self.takes_change(line)
        words = line.split(" ")
        if words[0] == "edit" and len(words) == 3:
            return self.takes_edit(words[1], number_read(words[2]))
        if words[0] == "move" and len(words) == 4:
            words[2] = number_read(words[2])
        deed = None if words[0] == "edit" else plain_deed(words)
        if deed is not None:
            self.done.append(deed)
        return deed is not None

    def takes_edit(self, shelf, many):
        if not is_name(shelf) or many is None:
            return False
        self.shelf = shelf
        self.changes = []
        self.left = many
        if many == 0:
            self.done.append(("edit", shelf, ()))
        return True

    def takes_change(self, line):
        word, _, rest = line.partition(" ")
        pair = file_read(rest) if word == "put" else None
        if pair is None and (word != "drop" or not is_path(rest)):
            return False
        self.changes.append(("drop", rest) if pair is None else ("put", *pair))
        self.left = self.left - 1
        if self.left == 0:
            self.done.append(("edit", self.shelf, tuple(self.changes)))
        return True

    def can_end(self):
        return self.left == 0


def read_deeds(text):
    return read_lines(text, DeedsReader()).done
