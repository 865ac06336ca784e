"""Cells, notes, reasons, threats and harm (8.1 to 8.3)."""

import itertools
import random
import time
import unittest

from noteshold.choices import first
from noteshold.choosing import chosen
from noteshold.errors import BadThreat, BadWish
from noteshold.index import Index, Row, wish_text
from noteshold.reasons import cells, harm, is_note, reasons, sights_of, threats
from noteshold.sights import tree_of
from noteshold.trees import Tree
from noteshold.versions import Range
from tests.packages import FEATURES, loose_packages, some_packages
from tests.worlds import odd_things, raised

ALL = Range([(1, 20)])
FREE = Row(FEATURES)
WORLDS = [(loose_packages if seed % 2 else some_packages)(seed, 2 + seed % 2, 1 + seed % 2) for seed in range(160)]


def only(version):
    return Range([(version, version)])


def counting_there(index, wishes):
    names = {package for package, _, _ in wishes}
    while True:
        more = names | {other for name in names for version in index.versions(name)
                        for _, options, _ in index[name, version].needs for other, _ in options}
        if more == names:
            return sorted(names)
        names = more


def cells_there(index, wishes):
    """The cells, by going through the versions: which ranges have them, and where rows stand."""
    names = counting_there(index, wishes)
    told = [(package, span) for package, span, _ in wishes]
    for name in names:
        for version in index.versions(name):
            row = index[name, version]
            told += [option for _, options, _ in row.needs for option in options] + list(row.clashes)
    found = []
    for name in names:
        marks = [(version if version in index.versions(name) else 0,
                  [version in span for package, span in told if package == name]) for version in range(1, 21)]
        cuts = [k for k in range(20) if k == 0 or marks[k] != marks[k - 1]]
        found += [(name, low + 1, high) for low, high in zip(cuts, cuts[1:] + [20])]
    return found


def outcomes_there(index, told, wishes, outcome, spots):
    """The outcomes of all indexes in which one place of each cell has its row, none, or one of two others.

    The free row can always be chosen; the other one needs itself, and bars all of the first package.
    """
    other = Row(FEATURES, clashes=[(told[0][0], ALL)]) if told else Row()
    found = {}
    for ways in itertools.product(range(4), repeat=len(told)):
        here = index
        for way, place in zip(ways, spots):
            if way:
                row = [None, FREE, other][way - 1]
                here = here.without(place) if row is None else here.put(place, row)
        found[ways] = outcome(here, wishes)
    return found


def notes_there(told, found):
    """The sets of the numbers of cells of which no index that is the same there has another outcome."""
    same = found[(0,) * len(told)]
    others = [{k for k, way in enumerate(ways) if way} for ways, outcome in found.items() if outcome != same]
    rows = [row for many in range(len(told) + 1) for row in itertools.combinations(range(len(told)), many)]
    return [row for row in rows if all(moved & set(row) for moved in others)]


def least_rows(rows):
    return [row for row in rows if not any(set(other) < set(row) for other in rows)]


def hitting(many, rows):
    """All least sets of numbers that have one in common with each of some."""
    told = [row for size in range(many + 1) for row in itertools.combinations(range(many), size)]
    return least_rows([row for row in told if all(set(row) & set(other) for other in rows)])


class CellsTest(unittest.TestCase):
    def test_all(self):
        for index, wishes in WORLDS:
            self.assertEqual(cells(index, wishes), cells_there(index, wishes))

    def test_what_counts_and_cuts(self):
        index = Index({("a", 3): Row(needs=[(None, [("b", Range([(2, 4), (9, 9)]))], [])], clashes=[("b", Range([(1, 3)]))]),
                       ("a", 4): Row(), ("c", 1): Row(needs=[(None, [("b", only(12))], [])]), ("b", 4): Row()})
        wishes = [("a", Range([(1, 10)]), [])]
        self.assertEqual(cells(index=index, wishes=wishes), [
            ("a", 1, 2), ("a", 3, 3), ("a", 4, 4), ("a", 5, 10), ("a", 11, 20), ("b", 1, 1), ("b", 2, 3), ("b", 4, 4),
            ("b", 5, 8), ("b", 9, 9), ("b", 10, 20)])
        self.assertEqual(cells(index, []), [])
        self.assertEqual(cells(Index(), [("z", ALL, [])]), [("z", 1, 20)])

    def test_sights(self):
        tree = Tree({"index/a/2": "x", "index/a/3/y": "", "index/b/1": ""})
        told = sights_of(tree=tree, some=[("b", 1, 1), ["a", 2, 4], ("b", 1, 1)])
        self.assertEqual(told, [(("read", "index/b/1"), ""), (("read", "index/a/2"), "x"), (("read", "index/a/3"), None),
                                (("read", "index/a/4"), None), (("read", "index/b/1"), "")])
        self.assertEqual(sights_of(tree, []), [])


class NotesTest(unittest.TestCase):
    def test_all_indexes_of_a_small_world(self):
        many = [0, 0]
        for index, wishes in WORLDS:
            told = cells(index, wishes)
            if not told or len(told) > 6:
                continue
            spots = [(package, low) for package, low, _ in told]
            notes = notes_there(told, outcomes_there(index, told, wishes, first, spots))
            for size in range(len(told) + 1):
                for row in itertools.combinations(range(len(told)), size):
                    self.assertEqual(is_note(index, wishes, [told[k] for k in row]), row in notes)
            least = least_rows(notes)
            self.assertEqual(reasons(index, wishes), [[told[k] for k in row] for row in least])
            crossed = hitting(len(told), least)
            self.assertEqual(threats(index, wishes), [[told[k] for k in row] for row in crossed])
            self.assertEqual(sorted(least), sorted(hitting(len(told), crossed)))
            many[first(index, wishes) is None] += 1
        self.assertGreater(min(many), 5)

    def test_reasons_and_threats_cross_one_another(self):
        several = 0
        for index, wishes in [some_packages(seed, 3, 2) for seed in range(120)]:
            told = cells(index, wishes)
            if len(told) > 10:
                continue
            least, crossed = reasons(index, wishes), threats(index, wishes)
            numbers = {cell: k for k, cell in enumerate(told)}
            rows = [tuple(numbers[cell] for cell in reason) for reason in least]
            self.assertEqual([[told[k] for k in row] for row in hitting(len(told), rows)], crossed)
            for reason in least:
                self.assertTrue(is_note(index, wishes, reason[::-1]))
                self.assertFalse(any(is_note(index, wishes, reason[:k] + reason[k + 1:]) for k in range(len(reason))))
            outcome = first(index, wishes)
            for package in outcome or {}:
                self.assertIn([(package, outcome[package], outcome[package])], crossed)
            several += len(least) > 1
        self.assertGreater(several, 2)

    def test_what_else_stands_changes_nothing(self):
        # Other rows stand at all places that a reason leaves open, those of packages that do not count among them.
        chance = random.Random(3)
        for seed, (index, wishes) in enumerate(WORLDS):
            others, _ = some_packages(1000 + seed, 3, 4)
            for reason in reasons(index, wishes)[:3]:
                kept = [(package, version) for package, low, high in reason for version in range(low, high + 1)]
                here = index
                for place in itertools.product("abcd", range(1, 7)):
                    if place not in kept and others[place] is not None:
                        here = here.put(place, others[place])
                    elif place not in kept and chance.random() < 0.5:
                        here = here.without(place)
                self.assertEqual(first(here, wishes), first(index, wishes))

    def test_order(self):
        index = Index({("a", 2): Row(needs=[(None, [("b", ALL), ("c", ALL)], [])]), ("a", 1): Row()})
        wishes = [("a", Range([(1, 2)]), [])]
        told = reasons(index, wishes)
        self.assertEqual(first(index, wishes), {"a": 1})
        self.assertEqual(told, [[("a", 1, 1), ("a", 2, 2), ("b", 1, 20), ("c", 1, 20)]])
        self.assertEqual(threats(index=index, wishes=wishes), [[("a", 1, 1)], [("a", 2, 2)], [("b", 1, 20)], [("c", 1, 20)]])
        index = index.put(("c", 9), Row(clashes=[("a", ALL), ("b", ALL)]))
        wishes = [("a", only(2), [])]
        self.assertIsNone(first(index, wishes))
        told = [("a", 2, 2), ("b", 1, 20), ("c", 1, 8), ("c", 9, 9), ("c", 10, 20)]
        self.assertEqual(reasons(index=index, wishes=wishes), [told])
        self.assertEqual(threats(index, wishes), [[cell] for cell in told])
        # A need that asks for what a row lacks: the row that needs, and the one that lacks, let the choice be each.
        index = Index({("a", 1): Row(), ("a", 2): Row(needs=[(None, [("b", ALL)], ["f"])]), ("b", 1): Row()})
        told = [("a", 1, 1), ("a", 2, 2), ("b", 1, 1), ("b", 2, 20)]
        self.assertEqual(threats(index, [("a", Range([(1, 2)]), [])]), [[cell] for cell in told])
        # Of two packages that lack both, either one bars the greater version, and both of two options the other one.
        index = Index({("a", 3): Row(needs=[(None, [("b", ALL)], []), (None, [("c", ALL)], [])]),
                       ("a", 2): Row(needs=[(None, [("b", ALL), ("c", ALL)], [])]), ("a", 1): Row()})
        told = reasons(index, [("a", Range([(1, 3)]), [])])
        self.assertEqual(told, [[("a", 1, 1), ("a", 2, 2), ("a", 3, 3), ("b", 1, 20), ("c", 1, 20)]])
        told = reasons(index.without(("a", 2)), [("a", Range([(1, 1), (3, 3)]), [])])
        self.assertEqual(told, [[("a", 1, 1), ("a", 3, 3), ("b", 1, 20)], [("a", 1, 1), ("a", 3, 3), ("c", 1, 20)]])

    def test_no_notes(self):
        index = Index({("a", 1): Row()})
        wishes = [("a", only(1), [])]
        told = cells(index, wishes)
        self.assertEqual((told, reasons(index, wishes)), ([("a", 1, 1), ("a", 2, 20)], [[("a", 1, 1)]]))
        self.assertTrue(is_note(index=index, wishes=wishes, thing=(["a", 1, 1], ("a", 2, 20))))
        wrong = [[("a", True, 1)], [("a", 1, 1), ("a", 1, 1)], [("a", 1, 1), ("a", 2, 2)], [("a", 1)], [("b", 1, 1)],
                 [("a", 1, 1), ("a", 2, 20, 1)], [("a", 2, 20)], ("a", 1, 1), [["a", 1, 1], None], [("a", 1, 1), ("a", "2", 20)]]
        for thing in wrong + odd_things():
            self.assertFalse(is_note(index, wishes, thing))
        self.assertTrue(is_note(index, [], []))
        self.assertFalse(is_note(index, [], told))
        self.assertEqual((reasons(index, []), threats(index, [])), ([[]], []))


class HarmTest(unittest.TestCase):
    def test_just_one_place_of_each_cell(self):
        for index, wishes in WORLDS:
            for threat in threats(index, wishes):
                here = harm(index, wishes, threat[::-1])
                self.assertNotEqual(first(here, wishes), first(index, wishes))
                moved = [(name, version) for name in "abcdef" for version in range(1, 21)
                         if here[name, version] != index[name, version]]
                self.assertEqual(len(moved), len(threat))
                self.assertTrue(all(any(name == package and low <= version <= high for name, version in moved)
                                    for package, low, high in threat))

    def test_no_threats(self):
        index = Index({("a", 1): Row(), ("a", 2): Row(needs=[(None, [("b", ALL)], [])])})
        wishes = [("a", only(1), [])]
        self.assertEqual(threats(index, wishes), [[("a", 1, 1)]])
        self.assertEqual(first(harm(index=index, wishes=wishes, threat=([["a", 1, 1]])), wishes), None)
        wrong = [[("a", 1, 1), ("a", 1, 1)], [("a", 1, 1), ("a", 2, 2)], [], ("a", 1, 1), [("a", 2, 2)], [("a", True, True)]]
        for thing in wrong + odd_things():
            self.assertIs(raised(BadThreat, lambda: harm(index, wishes, thing)).threat, thing)
        self.assertEqual(raised(BadThreat, lambda: harm(index, [], [])).threat, [])

    def test_bad_wishes(self):
        calls = [lambda wishes: cells(Index(), wishes), lambda wishes: is_note(Index(), wishes, None),
                 lambda wishes: reasons(Index(), wishes), lambda wishes: threats(Index(), wishes),
                 lambda wishes: harm(Index(), wishes, None)]
        for call in calls:
            self.assertEqual(raised(BadWish, lambda: call([("a", ALL, []), 0])).index, 1)
            self.assertEqual(raised(BadWish, lambda: call(None)).index, 0)


class AcrossTest(unittest.TestCase):
    def test_the_chooser_makes_the_same_with_the_sights_of_a_reason(self):
        # 8.7, in the barest tree that has them.
        for index, wishes in WORLDS:
            tree = Tree({**index.files(), "wish": wish_text(wishes)})
            for reason in reasons(index, wishes)[:3]:
                bare = tree_of(sights_of(tree, reason) + [(("read", "wish"), wish_text(wishes))])
                self.assertTrue(chosen(bare).ends_as(chosen(tree)))

    def test_28_cells_in_time(self):
        start = time.monotonic()
        spans = [Range([(2, 3), (9, 12)]), Range([(4, 6), (15, 18)])]
        rows = {}
        for place, name in enumerate("abcd"):
            others = [other for other in "abcd" if other != name]
            for version in (3, 8, 14):
                needs = [(None, [(others[place % 3], spans[place % 2]), (others[(place + 1) % 3], spans[1 - place % 2])], []),
                         (None, [(others[version % 3], ALL)], [])]
                rows[name, version] = Row(needs=needs, clashes=[(others[version % 2], only(8))])
        index = Index(rows)
        for wishes in [[("a", ALL, [])], [("a", only(14), []), ("b", Range([(3, 8)]), [])], [("c", only(8), ["f"])]]:
            told = cells(index, wishes)
            self.assertGreaterEqual(len(told), 28)
            least, crossed = reasons(index, wishes), threats(index, wishes)
            self.assertTrue(all(set(reason) & set(threat) for reason in least for threat in crossed))
            self.assertTrue(all(is_note(index, wishes, reason) for reason in least[:20]))
        self.assertLess(time.monotonic() - start, 30)


if __name__ == "__main__":
    unittest.main()
