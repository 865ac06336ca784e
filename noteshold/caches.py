"""Caches: heaps of entries, found by what a rule keeps of their runs."""

from noteshold.ends import all_numbers
from noteshold.errors import BadAsk, BadEntry, BadIndex
from noteshold.heaps import clashing_pair, plain_entry, tree_of_notes, unlike_pair
from noteshold.plain import is_integer, is_list, is_name
from noteshold.rules import loose
from noteshold.sights import first_barred, joint_sights, tree_of
from noteshold.trees import Tree
from noteshold.works import in_work, looks_in, raise_bad_sources, raise_own_folder, tree_by


class Cache:
    """Entries of steps' runs, and the rule by which they are found again."""

    def __init__(self, rule, entries=()):
        self.rule = rule
        self._entries = checked_entries(entries)
        self._notes = [rule.note(run) for _, _, run in self._entries]

    def entries(self):
        return list(self._entries)

    def more(self, entry):
        return Cache(self.rule, [*self._entries, entry])

    def less(self, index):
        place = self._number(index)
        return Cache(self.rule, self._entries[:place] + self._entries[place + 1:])

    def _number(self, index):
        """The index itself, if it is one of an entry."""
        if not is_integer(index) or not 0 <= index < len(self._entries):
            raise BadIndex(index)
        return index

    def found(self, name, tree):
        return [k for k, note in enumerate(self._notes)
                if self._entries[k][1] == name and are_true(note, tree)]

    def strays(self, name, tree):
        return [k for k in self.found(name, tree) if not self._entries[k][2].holds(tree)]

    def answer(self, name, tree):
        told = self.found(name, tree)
        return told[-1] if told else None

    def poisoned(self):
        return clashing_pair(self._entries)

    def clash(self):
        pair = unlike_pair(self._entries, self._notes)
        if pair is None:
            return None
        return (*pair, tree_of(self._notes[pair[0]] + self._notes[pair[1]]))

    def answers_in(self, index):
        place = self._number(index)
        later = self._named(place, place + 1, len(self._entries))
        return tree_of_notes([self._notes[place]], [self._notes[k] for k in later])

    def missed_in(self, index):
        place = self._number(index)
        later = self._named(place, place + 1, len(self._entries))
        passed = [self._notes[k] for k in later]
        # The one that would answer in its place is gone through from the last one on, then none at all.
        for k in self._named(place, 0, place)[::-1]:
            if not self._entries[k][2].ends_as(self._entries[place][2]):
                tree = tree_of_notes([self._notes[place], self._notes[k]], passed)
                if tree is not None:
                    return tree
            passed.append(self._notes[k])
        return tree_of_notes([self._notes[place]], passed)

    def _named(self, index, start, end):
        """The numbers of the entries from start to end that have the name of one."""
        return [k for k in range(start, end) if self._entries[k][1] == self._entries[index][1]]

    def never(self):
        return [k for k in range(len(self._entries)) if self.answers_in(k) is None]

    def idle(self):
        return [k for k in range(len(self._entries)) if self.missed_in(k) is None]

    def lean(self):
        left = self
        place = 0
        while place < len(left):
            if left.missed_in(place) is None:
                left = left.less(place)
            else:
                place += 1
        return left

    def least(self, asks):
        rows = [self.found(name, tree) for name, tree in checked_asks(asks)]
        return least_sets(self._entries, [row for row in rows if row])

    def shared(self, facts):
        joint_sights(facts)
        return [k for k, entry in enumerate(self._entries) if len(loose(self.rule, entry[2], facts)) == 0]

    def foreign(self, facts):
        known = joint_sights(facts)
        return [k for k, note in enumerate(self._notes) if first_barred([*note, *known]) is not None]

    def for_house(self, facts):
        return Cache(self.rule, [self._entries[k] for k in self.shared(facts)])

    def __iter__(self):
        return iter(self._entries)

    def __len__(self):
        return len(self._entries)

    def __eq__(self, other):
        return isinstance(other, Cache) and self.rule == other.rule and self._entries == other._entries


def with_entries(cache, entries):
    """The cache with further entries, told in tuples, behind its own, whose notes are kept."""
    made = Cache(cache.rule)
    made._entries = [*cache._entries, *entries]
    made._notes = [*cache._notes, *[cache.rule.note(run) for _, _, run in entries]]
    return made


def checked_entries(entries):
    """The list of the entries in tuples."""
    if not is_list(entries):
        raise BadEntry(0)
    found = []
    for index, thing in enumerate(entries):
        entry = plain_entry(thing)
        if entry is None:
            raise BadEntry(index)
        found.append(entry)
    return found


def checked_asks(asks):
    """The list of the asks itself."""
    if not is_list(asks):
        raise BadAsk(0)
    for index, thing in enumerate(asks):
        if not is_list(thing) or len(thing) != 2 or not is_name(thing[0]) or not isinstance(thing[1], Tree):
            raise BadAsk(index)
    return asks


def are_true(sights, tree):
    return all([tree.shown(look) == answer for look, answer in sights])


def least_sets(entries, rows):
    """The sets of the fewest numbers by which each row, of the entries found for an ask, keeps its end."""
    told = sorted(set([k for row in rows for k in row]))
    found = []
    for places in all_numbers(len(told)):
        numbers = tuple([told[place] for place in places])
        if found and len(numbers) > len(found[0]):
            break
        if all([keeps_end(entries, row, numbers) for row in rows]):
            found.append(numbers)
    return found


def keeps_end(entries, row, numbers):
    left = [k for k in row if k in numbers]
    return len(left) > 0 and entries[left[-1]][2].ends_as(entries[row[-1]][2])


def out_of(work, sources, cache):
    raise_bad_sources(work, sources)
    entries = cache.entries()
    raise_own_folder(work, {name: [look for _, owner, run in entries if owner == name for look in looks_in(run)]
                            for name in work.names()})
    notes = [cache.rule.note(run) for _, _, run in entries]
    found = {}
    many = -1
    while many < len(found):
        many = len(found)
        tree = tree_by(work, sources, {name: entries[found[name]][2] for name in found})
        known = list(found)
        for name in work.names():
            last = last_left(work, name, entries, notes, tree, known)
            if name not in known and last is not None:
                found[name] = last
    return in_work(work, found)


def last_left(work, name, entries, notes, tree, answered):
    """The number of the last entry of a step that is not out, if all that its note hangs on is answered, else None."""
    for k in range(len(entries) - 1, -1, -1):
        if entries[k][1] == name:
            known = [sight for sight in notes[k] if work.need(sight[0]) is None or work.need(sight[0]) in answered]
            if are_true(known, tree):
                return k if len(known) == len(notes[k]) else None
    return None
