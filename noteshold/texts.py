"""Texts of trees and runs."""

from noteshold.lines import answer_read, answer_text, file_line, file_read, is_behind_last, quoted, read_lines, unquoted
from noteshold.plain import is_name, plain_look
from noteshold.sights import barred_by_any
from noteshold.steps import Run
from noteshold.trees import Tree


def write_tree(tree):
    return "".join([file_line(path, text) for path, text in tree.files().items()])


def read_tree(text):
    return Tree(dict(read_lines(text, FilesReader()).pairs))


class FilesReader:
    """Reads files, ascending."""

    def __init__(self):
        self.pairs = []

    def takes(self, line):
        pair = file_read(line)
        if pair is None or not is_behind_last(pair[0], self.pairs):
            return False
        self.pairs.append(pair)
        return True

    def can_end(self):
        return True


def write_run(run):
    lines = [f"{word} {path} {answer_text(answer)}\n" for (word, path), answer in run.sights]
    return "".join(lines) + end_text(run.outcome, run.made, "")


def end_text(outcome, made, blanks):
    """The lines of an end, with some blanks ahead of each."""
    lines = [f"{blanks}end {quoted(outcome)}\n"]
    lines.extend([f"{blanks}make {file_line(path, text)}" for path, text in made])
    return "".join(lines)


class EndReader:
    """Reads the lines of an end."""

    def __init__(self):
        self.outcome = None
        self.made = []

    def takes(self, line):
        word, _, rest = line.partition(" ")
        if self.outcome is None:
            if word == "end":
                self.outcome = unquoted(rest)
            return self.outcome is not None
        pair = file_read(rest) if word == "make" else None
        if pair is None or not is_behind_last(pair[0], self.made):
            return False
        self.made.append(pair)
        return True

    def can_end(self):
        return self.outcome is not None


class RunReader:
    """Reads the lines of a run."""

    def __init__(self):
        self.sights = []
        self.end = EndReader()

    def takes(self, line):
        if self.end.can_end() or line.startswith("end "):
            return self.end.takes(line)
        sight = sight_read(line)
        if sight is None or sight[0] in [look for look, _ in self.sights] or barred_by_any(sight, self.sights):
            return False
        self.sights.append(sight)
        return True

    def can_end(self):
        return self.end.can_end()

    def run_read(self):
        return Run(self.sights, self.end.outcome, self.end.made)


def sight_read(line):
    """The sight that a line tells, None if it tells none."""
    word, _, rest = line.partition(" ")
    path, _, told = rest.partition(" ")
    look = plain_look((word, path))
    answer = None if look is None else answer_read(word, told)
    return None if answer is None else (look, answer[0])


def read_run(text):
    return read_lines(text, RunReader()).run_read()


def write_runs(runs):
    return "".join([f"run {name}\n{write_run(runs[name])}" for name in sorted(runs)])


class RunsReader:
    """Reads the lines of runs by names, ascending."""

    def __init__(self):
        self.titles = []
        self.readers = []

    def takes(self, line):
        if line.startswith("run ") and self.can_end():
            name = line[4:]
            if not is_name(name) or self.titles and name <= self.titles[-1]:
                return False
            self.titles.append(name)
            self.readers.append(RunReader())
            return True
        return len(self.readers) > 0 and self.readers[-1].takes(line)

    def can_end(self):
        return len(self.readers) == 0 or self.readers[-1].can_end()


def read_runs(text):
    told = read_lines(text, RunsReader())
    return {name: told.readers[k].run_read() for k, name in enumerate(told.titles)}
