"""Deeds, as they are told."""

from noteshold.plain import is_integer, is_list, is_name
from noteshold.trees import is_change

# What changes the stage; the others are done in it.
STAGE_DEEDS = ("edit", "copy", "move", "choose")
SINGLE_DEEDS = ("choose", "build", "lose")


def plain_deed(thing):
    """The deed in tuples, None if any object is none; what it names need not be there."""
    if not is_list(thing) or len(thing) < 2 or not is_name(thing[1]):
        return None
    if thing[0] in SINGLE_DEEDS:
        return tuple(thing) if len(thing) == 2 else None
    if len(thing) == 3 and thing[0] == "edit":
        changes = plain_changes(thing[2])
        return None if changes is None else ("edit", thing[1], changes)
    if len(thing) == 3 and thing[0] == "copy" and is_name(thing[2]):
        return tuple(thing)
    if len(thing) == 4 and thing[0] == "move" and is_slot(thing[2]) and is_name(thing[3]):
        return tuple(thing)
    return None


def is_slot(thing):
    return is_integer(thing) and thing in (0, 1)


def plain_changes(thing):
    """The changes in tuples, None if any object is no list of changes."""
    if not is_list(thing) or not all([is_change(change) for change in thing]):
        return None
    return tuple([tuple(change) for change in thing])


def house_of(deed):
    """The house that a deed names, None if it names none."""
    return deed[1] if deed[0] in ("move", "choose", "build") else None


def shelves_of(deed):
    """The list of the shelves that a deed names."""
    if deed[0] == "edit":
        return [deed[1]]
    if deed[0] == "copy":
        return [deed[1], deed[2]]
    return [deed[3]] if deed[0] == "move" else []
