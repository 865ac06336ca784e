"""Lines of texts: how plain things are written in them, and how they are read one after the other.

A reader takes lines, one by one, and tells whether each can stand there; it knows whether the text can end.
"""

from noteshold.errors import BadText
from noteshold.plain import is_kin, is_path, plain_answer

LAST_NAME = "zzzzzzzz"

# No text has so many lines: of a number with more figures the first ones tell as much.
MOST_FIGURES = 18


def quoted(text):
    told = text.replace("\\", "\\\\").replace("\"", "\\\"").replace("\n", "\\n")
    return "\"" + told + "\""


def unquoted(word):
    """The text that is quoted so, None if none is."""
    if len(word) < 2 or word[0] != "\"" or word[-1] != "\"":
        return None
    found = []
    is_behind = False
    for sign in word[1:-1]:
        if is_behind:
            if sign not in ("\"", "\\", "n"):
                return None
            found.append("\n" if sign == "n" else sign)
            is_behind = False
        elif sign == "\\":
            is_behind = True
        elif sign == "\"":
            return None
        else:
            found.append(sign)
    return None if is_behind else "".join(found)


def answer_text(answer):
    if answer is None:
        return "-"
    return quoted(answer) if isinstance(answer, str) else "(" + " ".join(answer) + ")"


def answer_read(word, text):
    """The answer, in a tuple of its own, of a look that begins with this word; None if the text is that of none."""
    if text == "-":
        return (None,)
    if word == "read":
        told = unquoted(text)
        return None if told is None else (told,)
    if len(text) < 2 or text[0] != "(" or text[-1] != ")":
        return None
    return plain_answer(word, text[1:-1].split(" "))


def file_line(path, text):
    return f"{path} {quoted(text)}\n"


def file_read(line):
    """The pair of a path and a text that a line tells, None if it tells none."""
    path, _, word = line.partition(" ")
    text = unquoted(word)
    return (path, text) if is_path(path) and text is not None else None


def is_behind_last(path, files):
    """Whether a path can stand behind the last one of ascending files, pairs of a path and a text."""
    return len(files) == 0 or path > files[-1][0] and not is_kin(path, files[-1][0])


def is_last_path(path):
    """Whether nothing can stand behind a path in ascending files."""
    return all([name == LAST_NAME for name in path.split("/")])


def number_read(word):
    """The number that is written so, None if none is."""
    if not word.isascii() or not word.isdigit() or len(word) > 1 and word[0] == "0":
        return None
    return int(word[:MOST_FIGURES])


def read_lines(text, reader):
    """The reader behind all lines of a text; BadText for the first line that cannot stand there."""
    if not isinstance(text, str):
        raise BadText(0)
    lines = text.split("\n")
    for k, line in enumerate(lines[:-1]):
        if not reader.takes(line):
            raise BadText(k + 1)
    # Behind the last line feed there is either nothing, or a line that lacks its own.
    if lines[-1] != "" or not reader.can_end():
        raise BadText(len(lines))
    return reader
