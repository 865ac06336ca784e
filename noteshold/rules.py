"""Rules: which sights a tool keeps, and which runs are safe by them."""

from noteshold.ends import fits, fresh_name, tree_seen, with_fact
from noteshold.errors import BadKept, BadPath, BadSort
from noteshold.plain import first_of, is_list, is_path
from noteshold.sights import first_barred, flows, joint_sights, sort_of

SORTS = ("contents", "lacking", "names", "nofolder")

# What a rule keeps of a sort is a triple (is_all, firsts, paths): is_all tells what is so of all first names but
# those of firsts, of which the contrary is; of paths the contrary is so of what is so of their first name.
NOTHING_KEPT = (False, (), ())
ALL_KEPT = (True, (), ())


class Rule:
    """What is kept of each sort of sights."""

    def __init__(self, kept):
        self._parts = kept_parts(kept)

    def has(self, sort, path):
        if sort not in SORTS:
            raise BadSort(sort)
        if not is_path(path):
            raise BadPath(path)
        return any([is_kept(self._parts[k], path) for k, told in enumerate(SORTS) if told == sort])

    def kept(self):
        return [(sort, *self._parts[k]) for k, sort in enumerate(SORTS) if self._parts[k] != NOTHING_KEPT]

    def keeps(self, other):
        return all([joined(part, contrary(self._parts[k]), False) == NOTHING_KEPT
                    for k, part in enumerate(other._parts)])

    def note(self, run):
        return [sight for sight in run.sights if self.has(sort_of(sight), sight[0][1])]

    def __or__(self, other):
        if not isinstance(other, Rule):
            return NotImplemented
        return rule_of([joined(part, other._parts[k], True) for k, part in enumerate(self._parts)])

    def __and__(self, other):
        if not isinstance(other, Rule):
            return NotImplemented
        return rule_of([joined(part, other._parts[k], False) for k, part in enumerate(self._parts)])

    def __invert__(self):
        return rule_of([contrary(part) for part in self._parts])

    def __eq__(self, other):
        return isinstance(other, Rule) and self._parts == other._parts


def rule_of(parts):
    """The rule with these parts, which pairs of a sort and what is kept cannot always tell."""
    made = Rule(())
    made._parts = parts
    return made


def kept_parts(kept):
    """The list of what is kept of each sort, by pairs as they are passed."""
    if not is_list(kept):
        raise BadKept(0)
    parts = {sort: NOTHING_KEPT for sort in SORTS}
    for index, pair in enumerate(kept):
        if not is_kept_pair(pair):
            raise BadKept(index)
        parts[pair[0]] = joined(parts[pair[0]], part_told(pair[1]), True)
    return [parts[sort] for sort in SORTS]


def is_kept_pair(thing):
    return is_list(thing) and len(thing) == 2 and thing[0] in SORTS and (thing[1] is None or is_path(thing[1]))


def part_told(what):
    if what is None:
        return ALL_KEPT
    return (False, (), (what,)) if "/" in what else (False, (what,), ())


def is_kept_first(part, first):
    return part[0] != (first in part[1])


def is_kept(part, path):
    return is_kept_first(part, first_of(path)) != (path in part[2])


def contrary(part):
    return (not part[0], part[1], part[2])


def joined(one, other, is_or):
    """What one or the other keeps, or what both do: as short as can be told."""
    is_all = one[0] or other[0] if is_or else one[0] and other[0]
    firsts = []
    for first in sorted(set(one[1] + other[1])):
        told, second = is_kept_first(one, first), is_kept_first(other, first)
        if (told or second if is_or else told and second) != is_all:
            firsts.append(first)
    paths = []
    for path in sorted(set(one[2] + other[2])):
        told, second = is_kept(one, path), is_kept(other, path)
        if (told or second if is_or else told and second) != (is_all != (first_of(path) in firsts)):
            paths.append(path)
    return (is_all, tuple(firsts), tuple(paths))


def follows_from_any(sight, sights):
    return any([flows(one, sight) for one in sights])


def loose(rule, run, facts=()):
    known = [*rule.note(run), *joint_sights(facts)]
    return [sight for sight in run.sights if not follows_from_any(sight, known)]


def safe(rule, run, facts=()):
    return len(loose(rule, run, facts)) == 0


def stray(rule, run, facts=()):
    free = loose(rule, run, facts)
    known = [*rule.note(run), *joint_sights(facts)]
    if first_barred(known) is not None:
        return None
    for sight in free:
        tree = tree_without(known, sight)
        if tree is not None:
            return tree
    return None


def tree_without(sights, sight):
    """A tree in which joint sights are true and another one is not, None if this follows from them."""
    name = fresh_name([], [*sights, sight])
    seen = {look: (True, (answer,)) for look, answer in sights}
    look, answer = sight
    if look in seen:
        return None if seen[look] == (True, (answer,)) else tree_seen(seen, name)
    fact = (False, (answer,))
    return tree_seen(with_fact(seen, look, fact), name) if fits(seen, look, fact, name) else None
