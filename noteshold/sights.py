"""Sights: looks with their answers, what they bar, and what follows from them."""

from noteshold.errors import Apart, BadLook, BadSight
from noteshold.plain import bare, first_of, is_beneath, is_kin, is_list, plain_answer, plain_look
from noteshold.trees import Tree

# What a path can be; several of these are told as their sum.
FILE = 1
FOLDER = 2
NOTHING = 4
ANYTHING = 7


def plain_sight(thing):
    """The sight in tuples, None if the thing is none."""
    if not is_list(thing) or len(thing) != 2:
        return None
    look = plain_look(thing[0])
    told = None if look is None else plain_answer(look[0], thing[1])
    return None if told is None else (look, told[0])


def plain_sights(sights):
    """The list of the sights in tuples; BadSight for the first thing that is none."""
    if not is_list(sights):
        raise BadSight(0)
    return [single_sight(thing, k) for k, thing in enumerate(sights)]


def single_sight(thing, index):
    sight = plain_sight(thing)
    if sight is None:
        raise BadSight(index)
    return sight


def raise_apart(sights):
    pair = first_barred(sights)
    if pair is not None:
        raise Apart(pair[0], pair[1])


def joint_sights(sights):
    """The list of the sights in tuples, if there are trees in which all are true."""
    told = plain_sights(sights)
    raise_apart(told)
    return told


def is_sight(thing):
    return plain_sight(thing) is not None


def sort_of(sight):
    look, answer = single_sight(sight, 0)
    if look[0] == "read":
        return "lacking" if answer is None else "contents"
    return "nofolder" if answer is None else "names"


def untrue(sights, tree):
    told = plain_sights(sights)
    return [k for k, (look, answer) in enumerate(told) if tree.shown(look) != answer]


def can_be(sight, path):
    """What a path can be in trees in which a sight is true."""
    (word, own), answer = sight
    if answer is None:
        return can_lack(word, own, path)
    if is_beneath(own, path):
        return FOLDER
    if word == "read":
        if path == own:
            return FILE
        return NOTHING if is_beneath(path, own) else ANYTHING
    if path == own:
        return FOLDER
    return can_be_within(own, answer, path) if is_beneath(path, own) else ANYTHING


def can_lack(word, own, path):
    """What a path can be where another one, or the same, is no file or no folder."""
    if word == "read":
        return FOLDER + NOTHING if path == own else ANYTHING
    if path == own:
        return FILE + NOTHING
    return NOTHING if is_beneath(path, own) else ANYTHING


def can_be_within(folder, marks, path):
    """What a path beneath a folder can be, if these names are all that is in the folder."""
    rest = path[len(folder) + 1:]
    name = first_of(rest)
    if name + "/" in marks:
        return FOLDER if rest == name else ANYTHING
    return FILE if rest in marks else NOTHING


def barred(one, other):
    """Whether no tree has two sights, told in tuples: what they tell of their two paths shows it."""
    if one[0] == other[0]:
        return one[1] != other[1]
    path, second = one[0][1], other[0][1]
    if not is_kin(path, second):
        return False
    return not can_be(one, path) & can_be(other, path) or not can_be(one, second) & can_be(other, second)


def barred_by_any(sight, sights):
    return any([barred(sight, other) for other in sights])


def bars(one, other):
    first = single_sight(one, 0)
    return barred(first, single_sight(other, 1))


def first_barred(sights):
    """The first pair of numbers of sights, told in tuples, that bar each other, None if there is none."""
    for i in range(len(sights)):
        for j in range(i + 1, len(sights)):
            if barred(sights[i], sights[j]):
                return (i, j)
    return None


def apart(sights):
    return first_barred(plain_sights(sights))


def tree_of(sights):
    return Tree(nearest_files({}, joint_sights(sights)))


def nearest(tree, sights):
    return Tree(nearest_files(tree.files(), joint_sights(sights)))


def nearest_files(files, sights):
    """The files to which the fewest changes lead: each file that is barred, and each that is put, has to change."""
    found = {path: files[path] for path in files if not barred_by_any((("read", path), files[path]), sights)}
    for (word, path), answer in sights:
        if word == "read" and answer is not None:
            found[path] = answer
    folders = []
    for (word, path), answer in sights:
        if word == "list" and answer is not None:
            inner = [f"{path}/{mark}" for mark in answer]
            folders.extend([bare(mark) for mark in inner if mark.endswith("/")])
            for mark in inner:
                if not mark.endswith("/"):
                    found.setdefault(mark, "")
    # The deepest first: what fills a folder fills those above it.
    for folder in sorted(folders, key=depth, reverse=True):
        if not any([is_beneath(path, folder) for path in found]):
            found[fresh_file(folder, sights)] = ""
    return found


def depth(path):
    return path.count("/")


def fresh_file(folder, sights):
    """A path right beneath a folder that may be a file; each sight bars one such path at most."""
    number = 0
    while barred_by_any((("read", f"{folder}/x{number}"), ""), sights):
        number += 1
    return f"{folder}/x{number}"


def flows(sight, other):
    """Whether the other sight is true in all trees in which the one is, both told in tuples."""
    if sight == other:
        return True
    (word, path), answer = other
    if answer is not None:
        return False
    return not can_be(sight, path) & (FILE if word == "read" else FOLDER)


def follows(sights, sight):
    told = plain_sights(sights)
    wanted = single_sight(sight, len(told))
    raise_apart(told)
    return any([flows(one, wanted) for one in told])


def least(sights):
    return least_of(joint_sights(sights))


def least_of(sights):
    """Those of joint sights, told in tuples, that follow from no other one."""
    unlike = []
    for sight in sights:
        if sight not in unlike:
            unlike.append(sight)
    return [sight for sight in unlike if not any([flows(one, sight) for one in unlike if one != sight])]


def sure(sights, look):
    told = plain_sights(sights)
    plain = plain_look(look)
    if plain is None:
        raise BadLook(look)
    raise_apart(told)
    for seen, answer in told:
        if seen == plain:
            return (answer,)
    return (None,) if any([flows(one, (plain, None)) for one in told]) else None
