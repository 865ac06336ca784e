"""Locks, upgrades, what is kept, and steps from choice to choice (8.4 to 8.6)."""

import itertools
import random
import time
import unittest

from noteshold.choices import first
from noteshold.errors import BadLock, BadWish, NotRight
from noteshold.index import Index, Row
from noteshold.reasons import cells
from noteshold.trees import Tree
from noteshold.upgrades import closed, is_closed, is_upgrade_note, kept, lock_of, news, steps, unkept, upgrade
from noteshold.upgrades import upgrade_reasons, upgrade_threats
from noteshold.versions import Range
from tests.packages import all_choices, best_there, is_right_there, lean_there, loose_packages, rank_there
from tests.packages import some_packages
from tests.test_reasons import hitting, least_rows, notes_there, outcomes_there
from tests.worlds import odd_things, raised

ALL = Range([(1, 20)])


def only(version):
    return Range([(version, version)])


def some_locks(many):
    chance = random.Random(4)
    for seed in range(many):
        index, wishes = (loose_packages if seed % 4 else some_packages)(seed, 2 + seed % 2, 1 + seed % 3)
        lock = {name: chance.randint(1, 4) for name in "abcd" if chance.random() < 0.6}
        yield chance, index, wishes, lock


def bad_locks():
    return [thing for thing in odd_things() if thing != {}] + [{"A": 1}, {"a": 21}, {"a": 0}, {"a": True}, {"a": "1"}, {1: 1}]


class LocksTest(unittest.TestCase):
    def test_lock_of(self):
        tree = Tree({"lock/b": "20", "lock/a": "1", "lock/c": "01", "lock/d": "21", "lock/e": "", "lock/f/g": "1", "lock/h": "2\n",
                     "a": "1", "locks/a": "1", "lock/i": "0"})
        self.assertEqual(list(lock_of(tree=tree).items()), [("a", 1), ("b", 20)])
        self.assertEqual((lock_of(Tree()), lock_of(Tree({"lock": "1"}))), ({}, {}))

    def test_news(self):
        self.assertEqual(news(lock={"a": 1, "b": 2, "z": 1}, choice={"c": 1, "b": 3, "a": 1}), ["b", "c"])
        self.assertEqual((news({}, {}), news({"a": 1}, {})), ([], []))

    def test_upgrade(self):
        moved = 0
        for chance, index, wishes, lock in some_locks(250):
            told = upgrade(index, wishes, lock)
            self.assertEqual(told, best_there(index, wishes, lock))
            self.assertEqual(list(told or {}), sorted(told or {}))
            moved += told != first(index, wishes)
            rights = [choice for choice in all_choices(index) if is_right_there(index, wishes, choice)]
            for choice in chance.sample(rights, min(3, len(rights))):
                within = [one for one in lean_there(index, wishes) if one.items() <= choice.items()]
                self.assertEqual(upgrade(index, wishes, choice), min(within, key=lambda one: rank_there(index, wishes, one)))
        self.assertGreater(moved, 10)

    def test_fewest_news_ahead_of_the_order(self):
        index = Index({("a", 1): Row(), ("a", 2): Row(), ("a", 3): Row(needs=[(None, [("b", ALL)], [])]), ("b", 1): Row()})
        wishes = [("a", ALL, [])]
        self.assertEqual(upgrade(index=index, wishes=wishes, lock={"a": 1}), {"a": 1})
        self.assertEqual(upgrade(index, wishes, {"a": 4}), {"a": 2})
        self.assertEqual(upgrade(index, wishes, {"b": 1}), {"a": 3, "b": 1})
        self.assertEqual((upgrade(index, [], {"a": 1}), upgrade(index, [("a", only(9), [])], {"a": 1})), ({}, None))

    def test_kept_and_unkept(self):
        many = [0, 0]
        for _, index, wishes, lock in some_locks(250):
            names = sorted(lock)
            rows = [row for size in range(len(names) + 1) for row in itertools.combinations(names, size)]
            rights = [choice for choice in all_choices(index) if is_right_there(index, wishes, choice)]
            had = [row for row in rows if any(all(choice.get(name) == lock[name] for name in row) for choice in rights)]
            told, others = kept(index, wishes, lock), unkept(index, wishes, lock)
            self.assertEqual(told, [row for row in had if not any(set(row) < set(other) for other in had)])
            self.assertEqual(others, least_rows([row for row in rows if row not in had]))
            lacks = [[k for k, name in enumerate(names) if name not in row] for row in told]
            self.assertEqual(others, [tuple(names[k] for k in row) for row in hitting(len(names), lacks)])
            many = [many[0] + (len(told) > 1), many[1] + (len(others) > 1)]
        self.assertGreater(min(many), 3)

    def test_kept_where_nothing_can_be_or_stands(self):
        index = Index({("a", 1): Row()})
        self.assertEqual((kept(index, [("b", ALL, [])], {"a": 1}), unkept(index, [("b", ALL, [])], {"a": 1})), ([], [()]))
        self.assertEqual((kept(index, [], {"a": 2, "b": 1}), unkept(index, [], {"b": 1, "a": 2})), ([()], [("a",), ("b",)]))
        self.assertEqual((kept(index=index, wishes=[], lock={}), unkept(index=index, wishes=[], lock={})), ([()], []))
        self.assertEqual(kept(index, [], {"a": 1, "b": 1}), [("a",)])
        index = index.put(("b", 1), Row()).put(("c", 1), Row(clashes=[("b", ALL)]))
        lock = {"z": 2, "c": 1, "y": 3, "b": 1, "a": 1}
        self.assertEqual((kept(index, [], lock), unkept(index, [], lock)),
                         ([("a", "b"), ("a", "c")], [("y",), ("z",), ("b", "c")]))

    def test_notes(self):
        many = 0
        for _, index, wishes, lock in some_locks(120):
            told = cells(index, wishes)
            if not told or len(told) > 6:
                continue
            # At the locked version a new row is no news.
            spots = [(package, lock[package] if low <= lock.get(package, 0) <= high else low) for package, low, high in told]
            found = outcomes_there(index, told, wishes, lambda here, asked: upgrade(here, asked, lock), spots)
            notes = notes_there(told, found)
            for size in range(len(told) + 1):
                for row in itertools.combinations(range(len(told)), size):
                    self.assertEqual(is_upgrade_note(index, wishes, lock, [told[k] for k in row]), row in notes)
            least = least_rows(notes)
            self.assertEqual(upgrade_reasons(index, wishes, lock), [[told[k] for k in row] for row in least])
            self.assertEqual(upgrade_threats(index, wishes, lock), [[told[k] for k in row] for row in hitting(len(told), least)])
            many += first(index, wishes) is not None and least != []
        self.assertGreater(many, 10)

    def test_a_locked_version_that_does_not_stand(self):
        index = Index({("a", 1): Row(), ("a", 2): Row()})
        wishes, lock = [("a", ALL, [])], {"a": 9}
        self.assertEqual(upgrade(index, wishes, lock), {"a": 2})
        self.assertEqual(upgrade_reasons(index=index, wishes=wishes, lock=lock), [[("a", 2, 2), ("a", 3, 20)]])
        self.assertEqual(upgrade_reasons(index, wishes, {"a": 1}), [[("a", 1, 1)]])
        self.assertEqual(upgrade_threats(index=index, wishes=wishes, lock={"a": 1}), [[("a", 1, 1)]])
        self.assertTrue(is_upgrade_note(index=index, wishes=wishes, lock={"a": 1}, thing=[("a", 1, 1)]))
        for thing in odd_things() + [[("a", True, 1)], [("a", 1, 1), ("a", 1, 1)]]:
            self.assertFalse(is_upgrade_note(index, wishes, lock, thing))

    def test_wrong_inputs(self):
        calls = [upgrade, kept, unkept, upgrade_reasons, upgrade_threats,
                 lambda index, wishes, lock: is_upgrade_note(index, wishes, lock, None)]
        for call in calls:
            for thing in bad_locks():
                self.assertIs(raised(BadLock, lambda: call(Index(), [], thing)).lock, thing)
            self.assertEqual(raised(BadWish, lambda: call(Index(), [("a", ALL, []), 0], None)).index, 1)
        for thing in bad_locks():
            self.assertIs(raised(BadLock, lambda: news(thing, {})).lock, thing)


def is_step(one, other):
    return sum(one.get(name) != other.get(name) for name in {*one, *other}) == 1


def reached_there(rights, one):
    """The right choices to which steps lead from one, with the numbers of these steps."""
    found = [(one, 0)]
    for choice, many in found:
        found += [(other, many + 1) for other in rights if is_step(choice, other) and other not in [told for told, _ in found]]
    return found


class StepsTest(unittest.TestCase):
    def test_all_pairs(self):
        many = [0, 0, 0]
        for seed in range(120):
            index, wishes = (loose_packages if seed % 4 else some_packages)(seed, 2 + seed % 2, 2)
            rights = [choice for choice in all_choices(index) if is_right_there(index, wishes, choice)]
            for one in rights[:4]:
                reached = reached_there(rights, one)
                for goal in rights[-4:]:
                    far = [number for choice, number in reached if choice == goal]
                    way, paper = steps(index, wishes, one, goal), closed(index, wishes, one, goal)
                    self.assertEqual((way is None, paper is None), (not far, bool(far)))
                    if far:
                        self.assertEqual((way[0], way[-1], len(way)), (one, goal, far[0] + 1))
                        self.assertTrue(all(choice in rights for choice in way))
                        self.assertTrue(all(is_step(way[k], way[k + 1]) for k in range(len(way) - 1)))
                        self.assertFalse(is_closed(index, wishes, one, goal, [choice for choice, _ in reached]))
                    else:
                        told = sorted([choice for choice, _ in reached], key=lambda choice: rank_there(index, wishes, choice))
                        self.assertEqual(paper, told)
                        self.check_closed(index, wishes, one, goal, rights, paper)
                    many[min(len(way or []), 2)] += 1
        self.assertGreater(min(many), 20)

    def check_closed(self, index, wishes, one, goal, rights, paper):
        for size in range(len(rights) + 1 if len(rights) < 7 else 0):
            for some in itertools.combinations(rights, size):
                leads = any(is_step(choice, other) for choice in some for other in rights if other not in some)
                self.assertEqual(is_closed(index, wishes, one, goal, list(some)), one in some and goal not in some and not leads)
        self.assertTrue(is_closed(index, wishes, one, goal, paper[::-1]))
        self.assertFalse(is_closed(index, wishes, one, goal, paper + paper[:1]))

    def test_a_way_around(self):
        # a moves on only beside the new b, which needs the old a or the new one of c.
        index = Index({("a", 1): Row(), ("a", 2): Row(needs=[(None, [("b", only(2))], [])]), ("b", 1): Row(),
                       ("b", 2): Row()})
        wishes = [("a", ALL, []), ("b", ALL, [])]
        way = steps(index=index, wishes=wishes[::-1], one={"b": 1, "a": 1}, goal={"a": 2, "b": 2})
        self.assertEqual(way, [{"a": 1, "b": 1}, {"a": 1, "b": 2}, {"a": 2, "b": 2}])
        self.assertEqual(list(way[0]), ["a", "b"])
        index = index.put(("b", 2), Row(clashes=[("a", only(1))]))
        self.assertIsNone(steps(index, wishes, {"a": 1, "b": 1}, {"a": 2, "b": 2}))
        self.assertEqual(closed(index=index, wishes=wishes, one={"a": 1, "b": 1}, goal={"a": 2, "b": 2}), [{"a": 1, "b": 1}])
        self.assertTrue(is_closed(index=index, wishes=wishes, one={"a": 1, "b": 1}, goal={"a": 2, "b": 2}, thing=({"a": 1, "b": 1},)))

    def test_one_and_goal_the_same(self):
        index = Index({("a", 1): Row()})
        self.assertEqual((steps(index, [], {"a": 1}, {"a": 1}), steps(index, [], {}, {})), ([{"a": 1}], [{}]))
        self.assertIsNone(closed(index, [], {}, {}))
        self.assertFalse(is_closed(index, [], {}, {}, [{}, {"a": 1}]))

    def test_no_right_choices(self):
        index = Index({("a", 1): Row(), ("b", 1): Row()})
        wishes = [("a", ALL, [])]
        calls = [steps, closed, lambda *told: is_closed(*told, None)]
        for call in calls:
            for thing in odd_things() + [{"a": 2}, {"b": 1}, {"a": True}, {"a": 1, "c": 1}]:
                self.assertIs(raised(NotRight, lambda: call(index, wishes, thing, 0)).choice, thing)
                self.assertIs(raised(NotRight, lambda: call(index, wishes, {"a": 1}, thing)).choice, thing)
            self.assertEqual(raised(BadWish, lambda: call(index, [0], None, None)).index, 0)
        for thing in odd_things() + [[{"a": 1}, None], [{"b": 1}], [{"a": 1}, {"a": 1}], {"a": 1}]:
            self.assertFalse(is_closed(index, wishes, {"a": 1}, {"a": 1, "b": 1}, thing))

    def test_in_time(self):
        start = time.monotonic()
        index = Index({(name, version): Row() for name in "abcd" for version in (1, 2, 3)})
        self.assertEqual(len(steps(index, [], {}, {name: 3 for name in "abcd"})), 5)
        index = index.put(("d", 9), Row(clashes=[("d", ALL - only(9))]))
        index = index.put(("d", 3), Row(needs=[(None, [("e", ALL)], [])])).put(("e", 1), Row(needs=[(None, [("d", only(3))], [])]))
        self.assertEqual(len(closed(index, [], {}, {"d": 3, "e": 1})), 4 * 4 * 4 * 4)
        self.assertLess(time.monotonic() - start, 10)


if __name__ == "__main__":
    unittest.main()
