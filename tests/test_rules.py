"""Rules, and which runs are safe by them (6.1, 6.2)."""

import itertools
import random
import unittest

from noteshold.errors import Apart, BadKept, BadPath, BadSight, BadSort
from noteshold.rules import SORTS, Rule, loose, safe, stray
from noteshold.sights import apart, follows
from noteshold.steps import Run
from noteshold.trees import Tree
from tests.worlds import LOOKS, odd_things, plain_trees, raised, small_trees, some_rule, some_run

TREES = small_trees()
PLAIN = plain_trees(TREES)
PATHS = ["a", "b", "a/a", "a/b", "b/a", "a/a/a", "zz", "zz/y", "a/zz", "a/zz/y"]
EVERYTHING = Rule([(sort, None) for sort in SORTS])
READ, FOLDER = ("read", "a/a"), ("list", "a")


def kept_by_hand(pairs, sort, path):
    return any(told == sort and what in (None, path if "/" in path else None, path.split("/")[0]) for told, what in pairs)


class RuleTest(unittest.TestCase):
    def test_has(self):
        wholes = [None, "a", "b", "a/a", "b/a", "a/a/a"]
        for pairs in itertools.combinations([(sort, what) for sort in SORTS[:2] for what in wholes], 3):
            rule = Rule(list(pairs))
            for sort in SORTS:
                for path in PATHS:
                    self.assertEqual(rule.has(sort, path), kept_by_hand(pairs, sort, path))

    def test_kept(self):
        rule = Rule(kept=[("names", "a/b"), ("names", "b/a"), ("contents", None), ("contents", "a"), ("names", "b")])
        self.assertEqual(rule.kept(), [("contents", True, (), ()), ("names", False, ("b",), ("a/b",))])
        self.assertEqual((~rule).kept(), [("lacking", True, (), ()), ("names", True, ("b",), ("a/b",)), ("nofolder", True, (), ())])
        some = rule & ~Rule([("contents", "c"), ("contents", "a/b"), ("names", "b/x"), ("names", "a/b")])
        self.assertEqual(some.kept(), [("contents", True, ("c",), ("a/b",)), ("names", False, ("b",), ("b/x",))])
        self.assertEqual((Rule([]).kept(), (~EVERYTHING).kept(), Rule(()) == ~EVERYTHING), ([], [], True))
        back = some | Rule([("contents", "c")])
        self.assertEqual(back.kept()[0], ("contents", True, (), ("a/b",)))
        self.assertEqual((some & Rule([("contents", "a/b")])).kept(), [])
        names = ["q", "b", "9", "zz", "a1", "c", "m"]
        many = Rule([("names", name) for name in names] + [("names", "x/" + name) for name in names])
        told = (tuple(sorted(names)), tuple("x/" + name for name in sorted(names)))
        self.assertEqual([many.kept(), (many & EVERYTHING).kept()], [[("names", False, *told)]] * 2)
        # A path of an excepted first name can be one of the few that are as all others are.
        one = ~Rule([("contents", "a")]) | Rule([("contents", "a/b")])
        self.assertEqual(one.kept()[0], ("contents", True, ("a",), ("a/b",)))

    def test_operators(self):
        chance = random.Random(1)
        for _ in range(200):
            one, other = some_rule(chance), some_rule(chance)
            rules = [one, other, one | other, one & other, ~one, other | one, ~(~one | ~other), ~other | ~one]
            rows = [[rule.has(sort, path) for sort in SORTS for path in PATHS] for rule in rules]
            self.assertEqual(rows[2], [first or second for first, second in zip(rows[0], rows[1])])
            self.assertEqual(rows[3], [first and second for first, second in zip(rows[0], rows[1])])
            self.assertEqual(rows[4], [not first for first in rows[0]])
            self.assertEqual(one.keeps(other), all(first or not second for first, second in zip(rows[0], rows[1])))
            # The paths here have all that these rules tell, and others.
            for first, second in itertools.combinations(range(len(rules)), 2):
                is_same = rows[first] == rows[second]
                self.assertEqual(rules[first] == rules[second], is_same)
                self.assertEqual(rules[first].kept() == rules[second].kept(), is_same)
                self.assertEqual(rules[first] != rules[second], not is_same)
                self.assertEqual(rules[first].keeps(rules[second]) and rules[second].keeps(rules[first]), is_same)
            self.assertTrue(rules[2] == rules[5] and rules[3] == rules[6] and one == one & (one | other))
        for thing in odd_things() + [EVERYTHING.kept()]:
            self.assertFalse(EVERYTHING == thing)

    def test_note(self):
        run = Run([(READ, None), (FOLDER, ("b", "c/")), (("read", "a/b"), "1"), (("list", "a/b"), None)], "")
        told = [("contents", 2), ("lacking", 0), ("names", 1), ("nofolder", 3)]
        for sort, k in told:
            self.assertEqual(Rule([(sort, None)]).note(run=run), [run.sights[k]])
        self.assertEqual(EVERYTHING.note(run), list(run.sights))
        self.assertEqual(Rule([("lacking", "a/a"), ("contents", "b")]).note(run), [run.sights[0]])

    def test_bad_kept(self):
        for thing in odd_things() + [("contents",), ("contents", "A"), ("contents", "a/"), ("contents", 1), ("read", None),
                                     ("contents", None, None), (None, None), ("contents", ["a"]), ([], None)]:
            self.assertEqual(raised(BadKept, lambda: Rule([("names", None), thing, 0])).index, 1)
            if not isinstance(thing, (list, tuple)):
                self.assertEqual(raised(BadKept, lambda: Rule(thing)).index, 0)

    def test_bad_sorts_and_paths(self):
        for thing in odd_things():
            self.assertIs(raised(BadSort, lambda: EVERYTHING.has(thing, thing)).thing, thing)
            if thing != "read":
                self.assertIs(raised(BadPath, lambda: EVERYTHING.has(sort="names", path=thing)).path, thing)

    def test_later_changes(self):
        pairs = [["names", "a"]]
        rule = Rule(pairs)
        pairs[0][1] = None
        pairs.append(0)
        rule.kept().clear()
        self.assertEqual(rule.kept(), [("names", False, ("a",), ())])


class SafeTest(unittest.TestCase):
    def test_all_trees(self):
        chance = random.Random(2)
        found = [0, 0, 0]
        for _ in range(400):
            rule, run, house = some_rule(chance), some_run(chance, PLAIN), chance.choice(PLAIN)
            facts = [(look, house.answer(look)) for look in chance.sample(LOOKS, chance.randint(0, 3))]
            known = rule.note(run) + facts
            told = loose(rule, run, facts)
            self.assertEqual(told, [sight for sight in run.sights
                                    if not any(follows([one], sight) for one in known)])
            self.assertEqual(safe(rule, run, facts), told == [])
            trees = [tree for tree in TREES if all(tree.answer(look) == answer for look, answer in known)]
            strays = [tree for tree in trees if not run.holds(tree)]
            tree = stray(rule, run, facts)
            self.assertEqual(tree is None, strays == [])
            if trees:
                self.assertEqual(safe(rule, run, facts), strays == [])
            if tree is not None:
                self.assertTrue(all(tree.answer(look) == answer for look, answer in known))
                self.assertFalse(run.holds(tree))
            found[0 if not trees else 1 if strays else 2] += 1
        self.assertGreater(min(found), 20)

    def test_one_by_one_where_facts_bar_the_note(self):
        run = Run([(READ, "1"), (("list", "a/a"), None), (("read", "b"), "2")], "")
        rule = Rule([("contents", "a")])
        facts = [(FOLDER, None)]
        self.assertEqual((loose(rule, run, facts), safe(rule, run, facts)), ([(("read", "b"), "2")], False))
        self.assertIsNone(stray(rule=rule, run=run, facts=facts))
        self.assertIsNotNone(apart(rule.note(run) + facts))

    def test_without_facts(self):
        run = Run([(FOLDER, ("a", "b/")), (("read", "a/c"), None), (("list", "a/a"), None)], "")
        self.assertTrue(safe(Rule([("names", None)]), run))
        self.assertEqual(loose(Rule([]), run), list(run.sights))
        self.assertTrue(safe(Rule([]), Run([], "")))
        for rule in (Rule([]), Rule([("lacking", None)]), Rule([("nofolder", None), ("contents", None)])):
            tree = stray(rule, run)
            self.assertFalse(run.holds(tree))
            self.assertTrue(all(tree.answer(look) == answer for look, answer in rule.note(run)))
        self.assertIsNone(stray(Rule([("names", None)]), run))

    def test_bad_facts(self):
        run = Run([(READ, None)], "")
        for call in (loose, safe, stray):
            for thing in odd_things():
                self.assertEqual(raised(BadSight, lambda: call(EVERYTHING, run, [(READ, None), thing, 0])).index, 1)
            self.assertEqual(raised(BadSight, lambda: call(EVERYTHING, run, None)).index, 0)
            facts = [(FOLDER, None), (("read", "b"), "1"), (("read", "a/c"), "1"), (("read", "b"), "2")]
            error = raised(Apart, lambda: call(EVERYTHING, run, facts))
            self.assertEqual((error.first, error.second), (0, 2))
            self.assertEqual(raised(BadSight, lambda: call(EVERYTHING, run, facts + [0])).index, 4)

    def test_tree_beside_the_fact(self):
        tree = stray(Rule([]), Run([(READ, "1")], ""), [(FOLDER, ("a",))])
        self.assertTrue(isinstance(tree, Tree) and tree.answer(FOLDER) == ("a",) and tree.answer(READ) not in (None, "1"))


if __name__ == "__main__":
    unittest.main()
