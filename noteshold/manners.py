"""Manners: how steps look, and what of a tree they can look at."""

from noteshold.errors import BadManner
from noteshold.patterns import is_pattern, matches
from noteshold.plain import first_of, is_list, is_name, is_path

CHOSEN = "lock"


def plain_manners(manners):
    """The dict from the names of steps to their firsts and patterns, in tuples."""
    if not isinstance(manners, dict):
        raise BadManner(manners)
    for name in manners:
        if not is_name(name) or name == CHOSEN or not is_manner(name, manners[name]):
            raise BadManner(name)
    told = {name: (tuple(manners[name][0]), tuple(manners[name][1])) for name in manners}
    for name in told:
        if name in reached(told, name):
            raise BadManner(name)
    return told


def is_manner(name, thing):
    if not is_list(thing) or len(thing) != 2 or not is_list(thing[0]) or not is_list(thing[1]):
        return False
    firsts, patterns = thing
    if not all([is_path(first) for first in firsts]) or len(set(firsts)) != len(firsts):
        return False
    locked = [first.partition("/")[2] for first in firsts if first_of(first) == CHOSEN]
    if not all([is_open_pattern(pattern) and is_name(first_of(pattern)) for pattern in patterns]):
        return False
    if not all([word in locked for pattern in patterns for word in words_open(pattern)]):
        return False
    return name not in [first_of(path) for path in [*firsts, *patterns]]


def is_open_pattern(thing):
    """Whether any object is a pattern, parts of which may stand for texts of files beneath lock."""
    if not isinstance(thing, str):
        return False
    return is_pattern("/".join(["x" if is_open(part) else part for part in thing.split("/")]))


def is_open(part):
    return part.startswith("@") and is_name(part[1:])


def words_open(pattern):
    """The names of the packages for whose texts parts of a pattern stand."""
    return [part[1:] for part in pattern.split("/") if is_open(part)]


def closed_pattern(pattern, shown):
    """The pattern with the texts for its open parts, None if one of these is no name; shown answers looks."""
    parts = []
    for part in pattern.split("/"):
        told = shown(("read", f"{CHOSEN}/{part[1:]}")) if is_open(part) else part
        if is_open(part) and not is_name(told):
            return None
        parts.append(told)
    return "/".join(parts)


def closed_patterns(patterns, shown):
    """The tuple of the patterns with these texts, without those that match nothing so."""
    told = [closed_pattern(pattern, shown) for pattern in patterns]
    return tuple([pattern for pattern in told if pattern is not None])


def hangs_on(manners, name):
    """The list of the steps on which a step hangs."""
    firsts, patterns = manners[name]
    begun = [first_of(path) for path in [*firsts, *patterns]]
    return [other for other in manners if other in begun]


def reached(manners, name):
    """All on which a step hangs, on which these hang, and so on."""
    found = []
    line = hangs_on(manners, name)
    while line:
        here = line.pop()
        if here not in found:
            found.append(here)
            line.extend(hangs_on(manners, here))
    return found


def in_hanging_order(manners):
    """The list of the steps, each behind those on which it hangs."""
    found = []
    while len(found) < len(manners):
        found.extend([name for name in manners if name not in found
                      and all([other in found for other in hangs_on(manners, name)])])
    return found


def has_manner(manner, run):
    """Whether a run keeps to a manner."""
    firsts, patterns = manner
    looks = [look for look, _ in run.sights]
    if looks[:len(firsts)] != [("read", first) for first in firsts]:
        return False
    answers = dict(run.sights)

    def shown(look):
        return answers[look]

    told = closed_patterns(patterns, shown)
    return all([any([matches(pattern, path) for pattern in told]) for _, path in looks[len(firsts):]])
