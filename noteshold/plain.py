"""The plain kinds of values: integers, lists, names, paths, looks, answers, made files."""

LOOKS = ("read", "list")
LONGEST_NAME = 8


def is_integer(thing):
    return isinstance(thing, int) and not isinstance(thing, bool)


def is_list(thing):
    return isinstance(thing, (list, tuple))


def is_name(thing):
    """Whether any object is a string of 1 to 8 small letters and figures."""
    if not isinstance(thing, str) or len(thing) > LONGEST_NAME:
        return False
    return thing.isascii() and thing.isalnum() and thing == thing.lower()


def is_path(thing):
    return isinstance(thing, str) and all([is_name(part) for part in thing.split("/")])


def are_names(thing):
    """Whether any object is a list of unlike names."""
    if not is_list(thing) or not all([is_name(name) for name in thing]):
        return False
    return len(set(thing)) == len(thing)


def is_beneath(path, other):
    return path.startswith(other + "/")


def is_kin(one, other):
    """Whether two paths are the same, or one is beneath the other one."""
    return one == other or is_beneath(one, other) or is_beneath(other, one)


def first_of(path):
    return path.partition("/")[0]


def is_met_path(thing, paths):
    """Whether any object is a path; those that are one are kept in paths, so that none is judged twice."""
    if not isinstance(thing, str):
        return False
    if thing not in paths and is_path(thing):
        paths[thing] = True
    return thing in paths


def plain_look(thing):
    """The look as a tuple, None if the thing is none."""
    return met_look(thing, {})


def met_look(thing, paths):
    if not is_list(thing) or len(thing) != 2:
        return None
    word, path = thing
    if word not in LOOKS or not is_met_path(path, paths):
        return None
    return (word, path)


def bare(mark):
    """The name in a folder without the stroke that a folder has behind it."""
    return mark.removesuffix("/")


def plain_answer(word, thing):
    """The answer of a look that begins with this word, in a tuple of its own; None for any object that is none."""
    return met_answer(word, thing, {})


def met_answer(word, thing, marks):
    if thing is None:
        return (None,)
    if word == "read":
        return (thing,) if isinstance(thing, str) else None
    told = met_marks(thing, marks)
    return None if told is None else (told,)


def met_marks(thing, marks):
    """All that is in a folder as a tuple, None for any object that cannot be that.

    Marks are kept with their names, so that none is judged twice.
    """
    if not is_list(thing) or len(thing) == 0:
        return None
    last = ""
    for mark in thing:
        if not isinstance(mark, str):
            return None
        if mark not in marks:
            if not is_name(bare(mark)):
                return None
            marks[mark] = bare(mark)
        if marks[mark] <= last:
            return None
        last = marks[mark]
    return tuple(thing)


def plain_made(thing):
    """The made files as an ascending tuple of pairs, None if the thing is no list of such."""
    return met_made(thing, {})


def met_made(thing, paths):
    if not is_list(thing):
        return None
    made = []
    for pair in thing:
        if not is_list(pair) or len(pair) != 2 or not is_met_path(pair[0], paths) or not isinstance(pair[1], str):
            return None
        made.append((pair[0], pair[1]))
    if len(made) > 1:
        made = sorted(made)
        # A stroke comes ahead of all signs of names, so what is beneath a path stands right behind it.
        if any([is_kin(made[k][0], made[k + 1][0]) for k in range(len(made) - 1)]):
            return None
    return tuple(made)
