"""What can become otherwise for steps of manners between two moments, and which steps a rule misleads there."""

from noteshold.manners import closed_patterns
from noteshold.patterns import matches, parts_of, shortest
from noteshold.plain import first_of, is_beneath
from noteshold.rules import NOTHING_KEPT, SORTS
from noteshold.sights import sort_of

READS = ("contents", "lacking")


class Sway:
    """How steps of manners sway between the moments of a ground."""

    def __init__(self, ground, manners):
        self.ground = ground
        self.manners = manners
        self.matched = {}
        self.seen = {}
        self.rows = {name: [self.row_of(name, number) for number in range(len(ground.trees))] for name in manners}

    def row_of(self, name, number):
        """What a step can look at in sources, and what of it is otherwise in later ones."""
        firsts, patterns = self.manners[name]
        told = closed_patterns(patterns, self.ground.shown_in(number))
        if (name, told) not in self.seen:
            self.seen[name, told] = (self.looks_matched(told), seen_by(self.manners, firsts, told))
        looks, sees = self.seen[name, told]
        own = [("read", first) for first in firsts if first_of(first) not in self.manners]
        return Glance(self.moved(own, number), self.moved(looks, number), sees)

    def looks_matched(self, patterns):
        """The looks of source paths that match some of the patterns, and are not everywhere answered with None."""
        found = {}
        for pattern in patterns:
            if pattern not in self.matched:
                is_source = first_of(pattern) not in self.manners
                told = self.ground.answers if is_source else {}
                self.matched[pattern] = [look for look in told if matches(pattern, look[1])]
            for look in self.matched[pattern]:
                found[look] = True
        return list(found)

    def moved(self, looks, number):
        """The triples (look, sort of its sight, mask) of those of the looks that are answered otherwise later on."""
        tree, later = self.ground.trees[number], self.ground.later[number]
        told = [(look, self.ground.unlike(look, number) & later) for look in looks]
        return [(look, sort_of((look, tree.shown(look))), mask) for look, mask in told if mask]

    def mask(self, name, number, pinned):
        """The mask of the later sources to which a step sways from these, but for pinned paths."""
        row = self.rows[name][number]
        found = row.base
        for other, firsts, patterns in row.sees:
            if patterns or any([first not in pinned for first in firsts]):
                found = found | self.mask(other, number, pinned)
        return found

    def any_mask(self, number):
        """The mask of the later sources to which some step sways from these."""
        found = 0
        for name in self.manners:
            found = found | self.rows[name][number].base
        return found

    def way_down(self, name, number, later, pinned):
        """The list of pairs of a step and a look, from a step that sways so to one that looks at a source."""
        row = self.rows[name][number]
        for look, _, mask in [*row.own, *row.others]:
            if mask & (1 << later):
                return [(name, look)]
        for other, firsts, patterns in row.sees:
            free = [first for first in firsts if first not in pinned]
            if (patterns or free) and self.mask(other, number, pinned) & (1 << later):
                look = ("read", free[0]) if free else ("list", shortest([parts_of(patterns[0])], 1))
                return [(name, look), *self.way_down(other, number, later, pinned)]
        return []


class Glance:
    """What a step can look at in some sources: its looks that are otherwise later on, and the steps that it sees.

    own (looks of its firsts) and others are lists of triples (look, sort of its sight, mask of the later sources where
    it is otherwise), sees one of triples (step, firsts beneath it, patterns of paths there).
    """

    def __init__(self, own, others, sees):
        self.own = own
        self.others = others
        self.sees = sees
        self.base = 0
        for _, _, mask in [*own, *others]:
            self.base = self.base | mask


def seen_by(manners, firsts, patterns):
    """The triples (step, firsts beneath it, patterns of paths there) of the steps that a step sees."""
    found = []
    for other in manners:
        inner = tuple([first for first in firsts if is_beneath(first, other)])
        told = tuple([pattern for pattern in patterns if first_of(pattern) == other])
        if inner or told:
            found.append((other, inner, told))
    return found


class Misled:
    """Which steps a rule misleads."""

    def __init__(self, sway, rule):
        self.sway = sway
        self.rule = rule
        self.parts = {sort: (is_all, firsts, paths) for sort, is_all, firsts, paths in rule.kept()}
        self._kept = {}
        self.dropped = {}
        self.pinned = {name: self.pinned_by(name) for name in sway.manners}

    def pinned_by(self, name):
        """The firsts of a step, beneath the names of steps, of which all sights are kept."""
        firsts = [first for first in self.sway.manners[name][0] if first_of(first) in self.sway.manners]
        return [first for first in firsts if all([self.keeps_sort(sort, first) for sort in READS])]

    def keeps_sort(self, sort, path):
        if (sort, path) not in self._kept:
            self._kept[sort, path] = self.rule.has(sort, path)
        return self._kept[sort, path]

    def mask(self, name, number):
        """The mask of the later sources in which a step is misled by what it saw in these."""
        row = self.sway.rows[name][number]
        found, barred = 0, 0
        for look, sort, mask in row.own:
            if self.keeps_sort(sort, look[1]):
                barred = barred | mask
            else:
                found = found | mask
        for look, sort, mask in row.others:
            if not self.keeps_sort(sort, look[1]):
                found = found | mask
        for sees in row.sees:
            if self.dropped_look(sees) is not None:
                found = found | self.sway.mask(sees[0], number, self.pinned[name])
        return found & ~barred

    def any_mask(self, number):
        """The mask of the later sources in which some step is misled by what it saw in these."""
        found = 0
        for name in self.sway.manners:
            found = found | self.mask(name, number)
        return found

    def is_any(self, number):
        """Whether some step is misled later by what it saw in these sources."""
        for name in self.sway.manners:
            if self.mask(name, number):
                return True
        return False

    def dropped_look(self, sees):
        """A look by which a step sees another one, and a sort of its sights that is dropped; None if none is."""
        if sees not in self.dropped:
            self.dropped[sees] = self.look_without(sees)
        return self.dropped[sees]

    def look_without(self, sees):
        other, firsts, patterns = sees
        for first in firsts:
            for sort in READS:
                if not self.keeps_sort(sort, first):
                    return (("read", first), sort)
        for pattern in patterns:
            for sort in SORTS:
                path = self.path_without(sort, other, pattern)
                if path is not None:
                    return (("read" if sort in READS else "list", path), sort)
        return None

    def path_without(self, sort, other, pattern):
        """A path that a pattern of paths of a step matches, and of which a sort is dropped; None if there is none."""
        is_all, firsts, paths = self.parts.get(sort, NOTHING_KEPT)
        apart_from = [path for path in paths if is_beneath(path, other)]
        if is_all != (other in firsts):
            told = [path for path in apart_from if matches(pattern, path)]
            return told[0] if told else None
        # Reading just the name of a step is no way to see it.
        barred = [other, *apart_from] if sort in READS else apart_from
        return shortest([parts_of(pattern), *[path.split("/") for path in barred]], 1)

    def sort_to_see(self, look):
        """The sort of sight of a look that is to be seen first: of a read one that is dropped, if one is."""
        if look[0] == "list":
            return "names"
        path = look[1]
        return "lacking" if self.keeps_sort("contents", path) and not self.keeps_sort("lacking", path) else "contents"

    def way_to_source(self, name, number, later):
        """The list of triples (step, look, sort to see first), from a misled step to one that looks at a source."""
        row = self.sway.rows[name][number]
        for look, sort, mask in [*row.own, *row.others]:
            if mask & (1 << later) and not self.keeps_sort(sort, look[1]):
                return [(name, look, sort)]
        for sees in row.sees:
            told = self.dropped_look(sees)
            if told is not None and self.sway.mask(sees[0], number, self.pinned[name]) & (1 << later):
                rest = self.sway.way_down(sees[0], number, later, self.pinned[name])
                return [(name, *told), *[(step, look, self.sort_to_see(look)) for step, look in rest]]
        return []
