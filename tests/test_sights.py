"""Sights, together, following, least notes (3.6 to 3.9)."""

import itertools
import random
import unittest

from noteshold.errors import Apart, BadLook, BadSight
from noteshold.sights import (apart, bars, follows, is_sight, least, nearest, sort_of, sure, tree_of, untrue)
from noteshold.trees import Tree, changes_between
from tests.worlds import odd_things, small_sights, small_trees

TREES = small_trees()
SIGHTS = small_sights(TREES)
GOOD = (("read", "a"), "1")


def no_sights():
    return odd_things() + [
        (("read", "a"),), (("read", "A"), "1"), (("list", "a"), "1"), (("read", "a"), ("b",)), (("read", "a"), 1),
        (("list", "a"), ()), (("list", "a"), ("b", "a")), (("list", "a"), ("a", "a")), (("list", "a"), ("a", "a/")),
        (("list", "a"), ("a/", "a")), (("list", "a"), ("A",)), (("list", "a"), ("/",)), (("list", "a"), ("a//",)),
        (("list", "a"), ("a/b",)), (("list", "a"), (1,)), (("list", "a"), ("",)), (("read", "a"), True),
        (("read", "a"), "1", 2), (("list", "a"), {"a": 1}), ("read", "a"), ("read", None)]


def calls(sights):
    """All calls with a list of sights alone."""
    return [lambda: untrue(sights, Tree()), lambda: apart(sights), lambda: tree_of(sights),
            lambda: nearest(Tree(), sights), lambda: follows(sights, GOOD), lambda: least(sights),
            lambda: sure(sights, ("read", "a"))]


class KindsTest(unittest.TestCase):
    def test_is_sight(self):
        for sight in [GOOD, (("read", "a"), None), [["list", "a/b"], ["b", "c/"]], (("list", "a"), None),
                      (("read", "a"), ""), (("list", "a"), ("a0", "a1/", "aa")), (("list", "a"), ("a/", "a0"))]:
            self.assertIs(is_sight(sight), True)
        for thing in no_sights():
            self.assertIs(is_sight(thing), False)
        self.assertIs(is_sight(thing=GOOD), True)

    def test_sort_of(self):
        told = [("contents", "1"), ("contents", ""), ("lacking", None)]
        for sort, answer in told:
            self.assertEqual(sort_of((("read", "a"), answer)), sort)
        self.assertEqual(sort_of([["list", "a"], ["b"]]), "names")
        self.assertEqual(sort_of((("list", "a"), None)), "nofolder")
        for thing in no_sights():
            with self.assertRaises(BadSight) as caught:
                sort_of(thing)
            self.assertEqual(caught.exception.index, 0)

    def test_bad_sights(self):
        for thing in no_sights():
            for call in calls([GOOD, thing, thing]) + calls((GOOD, thing)):
                with self.assertRaises(BadSight) as caught:
                    call()
                self.assertEqual(caught.exception.index, 1)

    def test_bad_sight_is_ahead_of_apart(self):
        for call in calls([GOOD, (("read", "a"), None), 3])[1:]:
            with self.assertRaises(BadSight) as caught:
                call()
            self.assertEqual(caught.exception.index, 2)

    def test_no_list(self):
        for sights in odd_things():
            if not isinstance(sights, (list, tuple)):
                for call in calls(sights):
                    with self.assertRaises(BadSight) as caught:
                        call()
                    self.assertEqual(caught.exception.index, 0)

    def test_apart_is_raised(self):
        sights = [(("read", "b"), None), GOOD, (("list", "a"), None), (("list", "a/b"), ("c",)), (("read", "a"), "2")]
        self.assertEqual(apart(sights), (1, 3))
        for call in calls(sights)[2:]:
            with self.assertRaises(Apart) as caught:
                call()
            self.assertEqual((caught.exception.first, caught.exception.second), (1, 3))

    def test_untrue(self):
        tree = Tree({"a/b": "1"})
        sights = [(("read", "a/b"), "1"), (("read", "a/b"), "2"), [["list", "a"], ["b"]], (("list", "a"), ("c",)),
                  (("read", "c"), None), (("list", "a"), None)]
        self.assertEqual(untrue(sights, tree), [1, 3, 5])
        self.assertEqual(untrue(sights=(), tree=tree), [])


class TogetherTest(unittest.TestCase):
    def test_bars_in_a_small_world(self):
        for one, other in itertools.product(SIGHTS, SIGHTS):
            self.assertEqual(bars(one, other), SIGHTS[one] & SIGHTS[other] == 0, (one, other))

    def test_bars_of_folders_in_folders(self):
        names = (("list", "a"), ("b", "c/"))
        for other, truth in [((("list", "a/c/d"), ("x",)), False), ((("list", "a/b/d"), ("x",)), True),
                             ((("list", "a/d/e"), ("x",)), True), ((("list", "a/c"), None), True),
                             ((("list", "a/c/d"), None), False), ((("read", "a/c/d"), "1"), False),
                             ((("read", "a/d/e/f"), "1"), True), ((("read", "a/b"), "1"), False),
                             ((("read", "a/b"), None), True), ((("read", "ab"), "1"), False),
                             ((("list", "ab"), None), False), ((("read", "a"), None), False)]:
            self.assertIs(bars(names, other), truth)
            self.assertIs(bars(one=other, other=names), truth)

    def test_bars_errors(self):
        for thing in no_sights():
            with self.assertRaises(BadSight) as caught:
                bars(thing, thing)
            self.assertEqual(caught.exception.index, 0)
            with self.assertRaises(BadSight) as caught:
                bars(GOOD, thing)
            self.assertEqual(caught.exception.index, 1)

    def test_some_tree_exactly_if_no_two_bar(self):
        chance = random.Random(3)
        sights = list(SIGHTS)
        for _ in range(3000):
            some = [chance.choice(sights) for _ in range(chance.randint(0, 5))]
            pairs = [(i, j) for i, j in itertools.combinations(range(len(some)), 2) if bars(some[i], some[j])]
            self.assertEqual(apart(some), pairs[0] if pairs else None)
            held = -1
            for sight in some:
                held &= SIGHTS[sight]
            self.assertEqual(apart(some) is None, held != 0 if some else True)
            if not pairs:
                self.assertEqual(untrue(some, tree_of(some)), [])

    def test_tree_of_deep_and_of_many(self):
        sights = [(("list", "a"), ("b/", "c")), (("list", "a/b"), ("d/",)), (("list", "a/b/d/e"), None),
                  (("read", "a/b/d/x0"), None), (("read", "a/b/d/x1"), None), (("read", "a/c"), "text")]
        self.assertEqual(untrue(sights, tree_of(sights)), [])
        many = [(("list", "a"), ("b/",))] + [(("read", f"a/b/x{k}"), None) for k in range(89)]
        self.assertEqual(untrue(many, tree_of(many)), [])

    def test_nearest_in_a_small_world(self):
        # The trees in which sights are true, those of the small world among them, are never nearer than told.
        far = [[len(changes_between(one, other)) for other in TREES] for one in TREES]
        sights = list(SIGHTS)
        chance = random.Random(4)
        some = list(itertools.combinations_with_replacement(sights, 2))
        some += [tuple(chance.choice(sights) for _ in range(size)) for size in (3, 4, 5) for _ in range(2000)]
        for number, told in enumerate(some):
            goals = [k for k in range(len(TREES)) if all(SIGHTS[sight] >> k & 1 for sight in told)]
            for k in range(number % 97, len(TREES), 97) if goals else []:
                tree = nearest(TREES[k], told)
                self.assertEqual(untrue(told, tree), [])
                least_far = min(far[k][goal] for goal in goals)
                self.assertEqual(len(changes_between(TREES[k], tree)), least_far)

    def test_nearest_keeps_what_it_can(self):
        tree = Tree({"a/b": "1", "a/c/d": "2", "e": "3"})
        self.assertEqual(nearest(tree, []), tree)
        self.assertEqual(nearest(tree, [(("list", "a"), ("c/",))]), Tree({"a/c/d": "2", "e": "3"}))
        self.assertEqual(nearest(tree=tree, sights=[(("read", "e"), "4")]), tree.after([("put", "e", "4")]))
        deep = [(("list", "x"), ("y/",)), (("list", "x/y"), ("z/",))]
        self.assertEqual(len(changes_between(tree, nearest(tree, deep))), 1)


class FollowingTest(unittest.TestCase):
    def test_follows_in_a_small_world(self):
        for one, other in itertools.combinations_with_replacement(SIGHTS, 2):
            held = SIGHTS[one] & SIGHTS[other]
            if held:
                for sight in SIGHTS:
                    truth = held & ~SIGHTS[sight] == 0
                    self.assertEqual(follows([one, other], sight), truth, (one, other, sight))
                    self.assertEqual(follows([one], sight) or follows([other], sight), truth)

    def test_nothing_from_nothing(self):
        for sight in SIGHTS:
            self.assertIs(follows([], sight), False)
            self.assertIs(follows((sight,), sight), True)

    def test_what_follows_far_beneath(self):
        self.assertTrue(follows([(("read", "a/b"), "1")], (("list", "a/b/c/d"), None)))
        self.assertTrue(follows([(("read", "a/b"), "1")], (("read", "a"), None)))
        self.assertFalse(follows([(("read", "a/b"), "1")], (("list", "a"), ("b",))))
        names = (("list", "a"), ("b", "c/"))
        for sight, truth in [((("read", "a/d/e"), None), True), ((("list", "a/d"), None), True),
                             ((("read", "a/b"), None), False), ((("list", "a/b/x"), None), True),
                             ((("read", "a/c"), None), True), ((("list", "a/c/x"), None), False),
                             ((("read", "a/c/x"), None), False), ((("list", "b"), None), False)]:
            self.assertIs(follows([names], sight), truth)
        self.assertTrue(follows(sights=[(("list", "a"), None)], sight=[["read", "a/b/c"], None]))
        self.assertFalse(follows([(("list", "a"), None)], (("read", "a"), None)))
        self.assertFalse(follows([(("read", "a"), None)], (("list", "a"), None)))

    def test_errors_in_order(self):
        barring = [GOOD, (("read", "a"), "2")]
        with self.assertRaises(BadSight) as caught:
            follows([*barring, 0], 0)
        self.assertEqual(caught.exception.index, 2)
        for thing in no_sights():
            with self.assertRaises(BadSight) as caught:
                follows(barring, thing)
            self.assertEqual(caught.exception.index, 2)
        with self.assertRaises(Apart) as caught:
            follows(barring, GOOD)
        self.assertEqual((caught.exception.first, caught.exception.second), (0, 1))


class LeastTest(unittest.TestCase):
    def test_least_in_a_small_world(self):
        chance = random.Random(5)
        sights = list(SIGHTS)
        many = 0
        while many < 1500:
            some = [chance.choice(sights) for _ in range(chance.randint(0, 6))]
            if apart(some) is not None:
                continue
            many += 1
            told = least(some)
            self.assertTrue(all(follows(told, sight) for sight in some))
            # It is the one least set: each set of them from which all follow has all of it.
            unlike = [sight for k, sight in enumerate(some) if sight not in some[:k]]
            for size in range(len(unlike) + 1):
                for part in itertools.combinations(unlike, size):
                    if all(follows(part, sight) for sight in unlike):
                        self.assertTrue(set(told) <= set(part))
            self.assertEqual(told, [sight for sight in unlike if sight in told])

    def test_order_and_kinds(self):
        some = [[["read", "x"], "1"], (("read", "x/y"), None), (("read", "x"), "1"), [["list", "b"], ["c"]]]
        self.assertEqual(least(some), [(("read", "x"), "1"), (("list", "b"), ("c",))])
        self.assertEqual(least(sights=()), [])

    def test_sure(self):
        sights = [(("read", "a/b"), "1"), [["list", "c"], ["d/"]]]
        for look, told in [(("read", "a/b"), ("1",)), (("list", "c"), (("d/",),)), (["read", "a"], (None,)),
                           (("list", "a/b/x"), (None,)), (("list", "a"), None), (("read", "x"), None),
                           (("list", "c/d"), None), (("read", "c/e"), (None,))]:
            self.assertEqual(sure(sights, look), told)
        self.assertEqual(sure(sights=[], look=("read", "a")), None)

    def test_sure_errors(self):
        apart_ones = [(("read", "a"), "1"), (("read", "a"), "2")]
        with self.assertRaises(BadSight):
            sure([0], 0)
        for look in odd_things():
            with self.assertRaises(BadLook) as caught:
                sure(apart_ones, look)
            self.assertIs(caught.exception.look, look)
        with self.assertRaises(Apart):
            sure(apart_ones, ("read", "b"))

    def test_what_is_passed_stays(self):
        sights = [[["list", "a"], ["b", "c/"]], [["read", "a/b"], "1"]]
        kept = [[["list", "a"], ["b", "c/"]], [["read", "a/b"], "1"]]
        for call in calls(sights)[:4]:
            call()
        told = least(sights)
        self.assertEqual(sights, kept)
        sights[0][1].append("d")
        self.assertEqual(told, [(("list", "a"), ("b", "c/")), (("read", "a/b"), "1")])


if __name__ == "__main__":
    unittest.main()
