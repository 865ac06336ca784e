"""The plain kinds of values: integers, lists, names, paths, looks, answers, made files."""

LOOKS = ("read", "list")
LONGEST_NAME = 8


def is_integer(thing):
    return isinstance(thing, int) and not isinstance(thing, bool)


def is_list(thing):
    return isinstance(thing, (tuple, list))


def is_name(thing):
    """Whether any object is a string of 1 to 8 small letters and figures."""
    return (isinstance(thing, str) and len(thing) <= LONGEST_NAME
            and thing.isascii() and thing.isalnum() and thing == thing.lower())


def is_path(thing):
    return isinstance(thing, str) and is_path_text(thing)


def is_path_text(text):
    """Whether a string is a path."""
    if not text.isascii() or text != text.lower():
        return False
    if text.isalnum():
        return len(text) <= LONGEST_NAME
    for name in text.split("/"):
        if not name.isalnum() or len(name) > LONGEST_NAME:
            return False
    return True


def are_names(thing):
    """Whether any object is a list of unlike names."""
    if not is_list(thing) or not all([is_name(name) for name in thing]):
        return False
    return len(set(thing)) == len(thing)


def is_beneath(path, other):
    return path.startswith(other + "/")


def is_kin(one, other):
    """Whether two paths are the same, or one is beneath the other one."""
    return one == other or is_beneath(one, other) or is_beneath(other, one)


def first_of(path):
    return path.partition("/")[0]


def plain_look(thing):
    """The look as a tuple, None if the thing is none."""
    return met_look(thing, {})


def met_look(thing, paths):
    """The same; paths that were met are kept in paths, so that none is judged twice."""
    match thing:
        case [word, path]:
            if word not in LOOKS or not isinstance(path, str) or path not in paths and not is_new_path(path, paths):
                return None
            return (word, path)
        case _:
            return None


def is_new_path(text, paths):
    """Whether a string is a path; it is kept in paths if it is one."""
    if not is_path_text(text):
        return False
    paths[text] = True
    return True


def bare(mark):
    """The name in a folder without the stroke that a folder has behind it."""
    return mark.removesuffix("/")


def plain_answer(word, thing):
    """The answer of a look that begins with this word, in a tuple of its own; None for any object that is none."""
    if thing is None:
        return (None,)
    if word == "read":
        return (thing,) if isinstance(thing, str) else None
    told = plain_marks(thing)
    return None if told is None else (told,)


def plain_marks(thing):
    """All that is in a folder as a tuple, None for any object that cannot be that."""
    if not isinstance(thing, (tuple, list)) or len(thing) == 0:
        return None
    last = ""
    for mark in thing:
        if not isinstance(mark, str):
            return None
        name = mark.removesuffix("/")
        if name <= last or not is_name(name):
            return None
        last = name
    return tuple(thing)


def plain_made(thing):
    """The made files as an ascending tuple of pairs, None if the thing is no list of such."""
    return met_made(thing, {})


def met_made(thing, paths):
    """The same; paths that were met are kept in paths, as above."""
    match thing:
        case []:
            return ()
        case [[path, text]]:
            # Most ends make one file.
            if not isinstance(text, str) or not isinstance(path, str):
                return None
            return ((path, text),) if path in paths or is_new_path(path, paths) else None
    if not isinstance(thing, (list, tuple)):
        return None
    made = []
    for pair in thing:
        match pair:
            case [path, text]:
                if not isinstance(text, str) or not isinstance(path, str):
                    return None
                if path not in paths and not is_new_path(path, paths):
                    return None
                made.append((path, text))
            case _:
                return None
    return ordered_made(made)


def ordered_made(made):
    """Pairs of a path and a text as an ascending tuple, None if one path is that of another pair, or beneath it."""
    told = sorted(made)
    # A stroke comes ahead of all signs of names, so what is beneath a path stands right behind it.
    last = told[0][0]
    for path, _ in told[1:]:
        if path.startswith(last) and is_kin(last, path):
            return None
        last = path
    return tuple(told)
