"""The plain kinds of values: integers, lists, names, paths, looks, answers, made files."""

LOOKS = ("read", "list")
LONGEST_NAME = 8


def is_integer(thing):
    return isinstance(thing, int) and not isinstance(thing, bool)


def is_list(thing):
    return isinstance(thing, (list, tuple))


def is_name(thing):
    """Whether any object is a string of 1 to 8 small letters and figures."""
    if not isinstance(thing, str) or len(thing) > LONGEST_NAME:
        return False
    return thing.isascii() and thing.isalnum() and thing == thing.lower()


def is_path(thing):
    return isinstance(thing, str) and all([is_name(part) for part in thing.split("/")])


def are_names(thing):
    """Whether any object is a list of unlike names."""
    if not is_list(thing) or not all([is_name(name) for name in thing]):
        return False
    return len(set(thing)) == len(thing)


def is_beneath(path, other):
    return path.startswith(other + "/")


def is_kin(one, other):
    """Whether two paths are the same, or one is beneath the other one."""
    return one == other or is_beneath(one, other) or is_beneath(other, one)


def first_of(path):
    return path.partition("/")[0]


def plain_look(thing):
    """The look as a tuple, None if the thing is none."""
    if not is_list(thing) or len(thing) != 2:
        return None
    word, path = thing
    if word not in LOOKS or not is_path(path):
        return None
    return (word, path)


def bare(mark):
    """The name in a folder without the stroke that a folder has behind it."""
    return mark.removesuffix("/")


def is_answer(word, thing):
    """Whether any object can be the answer of a look that begins with this word."""
    if thing is None:
        return True
    if word == "read":
        return isinstance(thing, str)
    return are_marks(thing)


def are_marks(thing):
    """Whether any object can be all that is in a folder."""
    if not is_list(thing) or len(thing) == 0:
        return False
    if not all([isinstance(mark, str) and is_name(bare(mark)) for mark in thing]):
        return False
    names = [bare(mark) for mark in thing]
    return all([names[k] < names[k + 1] for k in range(len(names) - 1)])


def plain_answer(answer):
    return tuple(answer) if is_list(answer) else answer


def plain_made(thing):
    """The made files as an ascending tuple of pairs, None if the thing is no list of such."""
    if not is_list(thing) or not all([is_made_file(pair) for pair in thing]):
        return None
    made = sorted([(path, text) for path, text in thing])
    paths = [path for path, _ in made]
    # A stroke comes ahead of all signs of names, so what is beneath a path stands right behind it.
    if any([is_kin(paths[k], paths[k + 1]) for k in range(len(paths) - 1)]):
        return None
    return tuple(made)


def is_made_file(thing):
    return is_list(thing) and len(thing) == 2 and is_path(thing[0]) and isinstance(thing[1], str)
