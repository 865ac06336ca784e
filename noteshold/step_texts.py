"""Texts of steps."""

from noteshold.lines import answer_read, answer_text, read_lines
from noteshold.plain import plain_look
from noteshold.steps import Step
from noteshold.texts import EndReader, end_text


def write_step(step):
    return tree_text(step.tree(), "")


def tree_text(tree, blanks):
    if tree[0] == "end":
        return end_text(tree[1], tree[2], blanks)
    word, path = tree[1]
    lines = [f"{blanks}ask {word} {path}\n"]
    for answer, part in tree[2]:
        lines.append(f"{blanks}case {answer_text(answer)}\n")
        lines.append(tree_text(part, blanks + "  "))
    lines.append(f"{blanks}else\n")
    lines.append(tree_text(tree[3], blanks + "  "))
    return "".join(lines)


class AskReader:
    """Reads an ask: its look, and what its cases and its other tree are."""

    def __init__(self, look):
        self.look = look
        self.cases = []
        self.answers = []
        self.is_other = False

    def takes_way(self, line):
        """Takes the line ahead of a tree below."""
        if line == "else":
            self.is_other = True
            return True
        if not line.startswith("case "):
            return False
        answer = answer_read(self.look[0], line[5:])
        if answer is None or answer in self.answers:
            return False
        self.answers.append(answer)
        return True

    def put(self, tree):
        """Keeps the tree below; tells the tree of the ask if this was its last one, else None."""
        if self.is_other:
            return ("ask", self.look, self.cases, tree)
        self.cases.append((self.answers[-1][0], tree))
        return None


class StepReader:
    """Reads a tree of choices."""

    def __init__(self):
        # The asks that are read, the outermost one first, and the end that is read below them, if one is.
        self.asks = []
        self.end = None
        self.is_begun = True
        self.told = None

    def takes(self, line):
        bare_line = line.lstrip(" ")
        blanks = len(line) - len(bare_line)
        if self.end is not None:
            if bare_line.startswith("make "):
                return blanks == 2 * len(self.asks) and self.end.takes(bare_line)
            self.close()
        if self.is_begun:
            return blanks == 2 * len(self.asks) and self.begins(bare_line)
        if not self.asks or blanks != 2 * len(self.asks) - 2 or not self.asks[-1].takes_way(bare_line):
            return False
        self.is_begun = True
        return True

    def begins(self, line):
        """Takes the first line of a tree."""
        self.is_begun = False
        if line.startswith("ask "):
            word, _, path = line[4:].partition(" ")
            look = plain_look((word, path))
            if look is None or look in [ask.look for ask in self.asks]:
                return False
            self.asks.append(AskReader(look))
            return True
        self.end = EndReader()
        return self.end.takes(line)

    def close(self):
        """The end has no more lines: all asks are over whose last tree it is."""
        tree = ("end", self.end.outcome, self.end.made)
        self.end = None
        while self.asks:
            told = self.asks[-1].put(tree)
            if told is None:
                return
            tree = told
            self.asks.pop()
        self.told = tree

    def can_end(self):
        return self.end is not None and all([ask.is_other for ask in self.asks])

    def step_read(self):
        self.close()
        return Step(self.told)


def read_step(text):
    return read_lines(text, StepReader()).step_read()
