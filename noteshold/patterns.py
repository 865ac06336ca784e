"""Patterns: paths with open parts."""

from noteshold.errors import BadPath, BadPattern
from noteshold.plain import is_list, is_name, is_path

MOST_PARTS = 6


def is_pattern(thing):
    if not isinstance(thing, str):
        return False
    parts = thing.split("/")
    return len(parts) <= MOST_PARTS and all([part in ("*", "**") or is_name(part) for part in parts])


def parts_of(pattern):
    if not is_pattern(pattern):
        raise BadPattern(pattern)
    return pattern.split("/")


# A mask tells how far a pattern can have come behind some names of a path:
# bit k stands for its first k parts.


def passed(parts, mask):
    """The mask with what can be passed over without any name."""
    for k, part in enumerate(parts):
        if part == "**" and mask & (1 << k):
            mask = mask | (1 << (k + 1))
    return mask


def moved(parts, mask, name):
    """The mask behind one more name."""
    found = 0
    for k, part in enumerate(parts):
        if mask & (1 << k):
            if part == "**":
                found = found | (1 << k)
            elif part == "*" or part == name:
                found = found | (1 << (k + 1))
    return passed(parts, found)


def is_done(parts, mask):
    return mask & (1 << len(parts)) != 0


def matches(pattern, path):
    parts = parts_of(pattern)
    if not is_path(path):
        raise BadPath(path)
    mask = passed(parts, 1)
    for name in path.split("/"):
        mask = moved(parts, mask, name)
    return is_done(parts, mask)


def names_to_try(rows):
    """The names that stand in patterns, and one more, which does for all others."""
    told = sorted(set([part for parts in rows for part in parts if part not in ("*", "**")]))
    number = 0
    while f"x{number}" in told:
        number += 1
    return told + [f"x{number}"]


def shortest(rows, many):
    """A shortest path that the first patterns, so many, match, and none of the others; None if there is none."""
    names = names_to_try(rows)
    steps = {}
    seen = {}
    line = [(tuple([passed(parts, 1) for parts in rows]), ())]
    while line:
        further = []
        for masks, path in list(line):
            for name in names:
                behind = tuple([step_of_mask(steps, rows, k, mask, name) for k, mask in enumerate(masks)])
                if behind in seen or 0 in behind[:many]:
                    continue
                seen[behind] = True
                here = (*path, name)
                if [is_done(parts, behind[k]) for k, parts in enumerate(rows)] == wanted_ends(rows, many):
                    return "/".join(here)
                further.append((behind, here))
        line = further
    return None


def wanted_ends(rows, many):
    return [k < many for k in range(len(rows))]


def step_of_mask(steps, rows, k, mask, name):
    """What moved tells, kept in steps, as the same few moves come again and again."""
    key = (k, mask, name)
    if key not in steps:
        steps[key] = moved(rows[k], mask, name)
    return steps[key]


def missed(patterns, pattern):
    if not is_list(patterns):
        raise BadPattern(patterns)
    others = [parts_of(one) for one in patterns]
    return shortest([parts_of(pattern), *others], 1)


def shared(one, other):
    first = parts_of(one)
    return shortest([first, parts_of(other)], 2)
