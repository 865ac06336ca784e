"""The plain kinds of values: integers, lists, names, paths, looks, answers, made files."""

LOOKS = ("read", "list")
LONGEST_NAME = 8


def is_integer(thing):
    return isinstance(thing, int) and not isinstance(thing, bool)


def is_list(thing):
    return isinstance(thing, (tuple, list))


def is_name(thing):
    """Whether any object is a string of 1 to 8 small letters and figures."""
    return (isinstance(thing, str) and len(thing) <= LONGEST_NAME
            and thing.isascii() and thing.isalnum() and thing == thing.lower())


def is_path(thing):
    if not isinstance(thing, str):
        return False
    signs = thing.replace("/", "")
    if not signs.isalnum() or not signs.isascii() or signs != signs.lower():
        return False
    if len(signs) <= LONGEST_NAME and "//" not in thing:
        return thing[0] != "/" and thing[-1] != "/"
    for name in thing.split("/"):
        if not 0 < len(name) <= LONGEST_NAME:
            return False
    return True


def are_names(thing):
    """Whether any object is a list of unlike names."""
    if not is_list(thing) or not all([is_name(name) for name in thing]):
        return False
    return len(set(thing)) == len(thing)


def is_beneath(path, other):
    return path.startswith(other + "/")


def is_kin(one, other):
    """Whether two paths are the same, or one is beneath the other one."""
    return one == other or is_beneath(one, other) or is_beneath(other, one)


def first_of(path):
    return path.partition("/")[0]


def plain_look(thing):
    """The look as a tuple, None if the thing is none."""
    return met_look(thing, {})


def met_look(thing, paths):
    if not isinstance(thing, (tuple, list)) or len(thing) != 2:
        return None
    word, path = thing
    if word not in LOOKS or not isinstance(path, str) or path not in paths and not is_path(path):
        return None
    paths[path] = True
    return (word, path)


def bare(mark):
    """The name in a folder without the stroke that a folder has behind it."""
    return mark.removesuffix("/")


def plain_answer(word, thing):
    """The answer of a look that begins with this word, in a tuple of its own; None for any object that is none."""
    if thing is None:
        return (None,)
    if word == "read":
        return (thing,) if isinstance(thing, str) else None
    told = plain_marks(thing)
    return None if told is None else (told,)


def plain_marks(thing):
    """All that is in a folder as a tuple, None for any object that cannot be that."""
    if not isinstance(thing, (tuple, list)) or len(thing) == 0:
        return None
    last = ""
    for mark in thing:
        if not isinstance(mark, str):
            return None
        name = mark.removesuffix("/")
        if name <= last or not is_name(name):
            return None
        last = name
    return tuple(thing)


def plain_made(thing):
    """The made files as an ascending tuple of pairs, None if the thing is no list of such."""
    return met_made(thing, {})


def met_made(thing, paths):
    """The same; paths that were met are kept in paths, so that none is judged twice."""
    if not isinstance(thing, (tuple, list)):
        return None
    made = []
    for pair in thing:
        if not isinstance(pair, (tuple, list)) or len(pair) != 2:
            return None
        path, text = pair
        if not isinstance(text, str) or not isinstance(path, str) or path not in paths and not is_path(path):
            return None
        paths[path] = True
        made.append((path, text))
    if len(made) < 2:
        return tuple(made)
    made = sorted(made)
    # A stroke comes ahead of all signs of names, so what is beneath a path stands right behind it.
    if any([is_kin(made[k][0], made[k + 1][0]) for k in range(len(made) - 1)]):
        return None
    return tuple(made)
