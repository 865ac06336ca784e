"""Why no choice is right: barrings, blames and peaces (7.7, 7.8)."""

import itertools
import time
import unittest

from noteshold.barring import barring, blames, is_barring, peaces
from noteshold.choices import first
from noteshold.errors import BadWish
from noteshold.index import Index, Row
from noteshold.versions import Range
from tests.packages import all_choices, is_right_there, some_packages
from tests.worlds import odd_things, raised

ALL = Range([(1, 20)])
WORLDS = [some_packages(seed, 2 + seed % 2, 1 + seed % 2) for seed in range(250)]


def only(version):
    return Range([(version, version)])


def is_broken_there(index, wishes, decided, rule):
    """Whether a rule of a leaf is broken where this is decided, word by word."""
    chosen = {package: version for package, version in decided.items() if version is not None}
    lit = {(package, name) for package, _, asks in wishes for name in asks}
    for _ in range(10):
        for package, version in chosen.items():
            for when, options, asks in index[package, version].needs:
                if len(options) == 1 and (when is None or (package, when) in lit):
                    lit |= {(options[0][0], name) for name in asks}
    if rule[0] == "wish":
        package, span, _ = wishes[rule[1]]
        return package in decided and decided[package] not in span
    _, package, version, which = rule
    if chosen.get(package) != version:
        return False
    row = index[package, version]
    if rule[0] == "clash":
        return decided.get(row.clashes[which][0]) in row.clashes[which][1]
    if rule[0] == "feature":
        return (package, which) in lit and which not in row.features
    when, options, _ = row.needs[which]
    return (when is None or (package, when) in lit) and all(
        other in decided and decided[other] not in span for other, span in options)


def is_barring_there(index, wishes, thing, decided):
    if thing[0] == "broken":
        return is_broken_there(index, wishes, decided, thing[1])
    _, package, trees = thing
    return package not in decided and set(trees) == {*index.versions(package), None} and all(
        is_barring_there(index, wishes, part, {**decided, package: version}) for version, part in trees.items())


def sets_there(index, wishes):
    """All sets of numbers of wishes that some choice meets, and all that none does."""
    numbers = range(len(wishes))
    rows = [row for many in range(len(wishes) + 1) for row in itertools.combinations(numbers, many)]
    met = [row for row in rows if any(is_right_there(index, [wishes[k] for k in row], choice)
                                      for choice in all_choices(index))]
    return met, [row for row in rows if row not in met]


class BarringTest(unittest.TestCase):
    def test_just_where_no_choice_is_right(self):
        found = [0, 0]
        for index, wishes in WORLDS:
            is_some = any(is_right_there(index, wishes, choice) for choice in all_choices(index))
            told = barring(index, wishes)
            self.assertEqual(told is None, is_some)
            if told is not None:
                self.assertTrue(is_barring_there(index, wishes, told, {}))
                self.assertTrue(is_barring(index, wishes, told))
            found[is_some] += 1
        self.assertGreater(min(found), 50)

    def test_none_where_a_choice_is_right(self):
        # No tree of the kind shows it there: all of a small depth are tried.
        index = Index({("a", 1): Row(), ("b", 1): Row(clashes=[("a", only(1))])})
        wishes = [("a", ALL, [])]
        leaves = [("broken", rule) for rule in [("wish", 0), ("clash", "b", 1, 0)]]
        below = leaves + [("ask", "b", {1: one, None: other}) for one in leaves for other in leaves]
        for tree in below + [("ask", "a", {1: one, None: other}) for one in below for other in below]:
            self.assertFalse(is_barring(index, wishes, tree))
        self.assertTrue(is_barring(index, [("a", only(2), [])], ("ask", "a", {1: leaves[0], None: leaves[0]})))

    def test_every_rule(self):
        index = Index({("a", 1): Row(["f"], [("f", [("b", ALL)], ["g"]), (None, [("c", ALL), ("b", only(2))], [])]),
                       ("b", 1): Row(clashes=[("a", only(2)), ("a", only(1))])})
        wishes = [("c", ALL, []), ("a", ALL, ["f"])]
        self.assertTrue(is_barring(index, wishes, ("ask", "c", {None: ("broken", ("wish", 0))})))
        missing = ("broken", ("wish", 1))

        def tree(one, other):
            return ["ask", "a", {None: missing, 1: ["ask", "b", {None: other, 1: one}]}]

        need, clash = ("broken", ("need", "a", 1, 0)), ("broken", ["clash", "b", 1, 1])
        feature = ("broken", ("feature", "b", 1, "g"))
        self.assertTrue(is_barring(index, wishes, tree(clash, need)))
        self.assertTrue(is_barring(index, wishes, tree(feature, need)))
        for one, other in [(need, need), (clash, clash), (feature, feature), (("broken", ("clash", "b", 1, 0)), need),
                           (("broken", ("feature", "a", 1, "f")), need), (clash, ("broken", ("need", "a", 1, 1))),
                           (clash, ("broken", ("need", "b", 1, 0)))]:
            self.assertFalse(is_barring(index, wishes, tree(one, other)))
        # All options of a need have to be decided, those of packages that do not stand among them.
        both = ("broken", ("need", "a", 1, 1))
        self.assertTrue(is_barring(index, wishes, tree(clash, ("ask", "c", {None: both}))))
        # What is not lit is no live need, and asks nothing.
        self.assertFalse(is_barring(index, [("a", ALL, [])], tree(clash, need)))
        self.assertFalse(is_barring(index, [("a", ALL, [])], tree(feature, need)))

    def test_packages_that_do_not_stand(self):
        self.assertTrue(is_barring(Index(), [("a", ALL, [])], barring(Index(), [("a", ALL, [])])))
        leaf = ("broken", ("wish", 0))
        self.assertTrue(is_barring(Index(), [("a", ALL, [])], ("ask", "z", {None: ("ask", "a", {None: leaf})})))
        self.assertFalse(is_barring(Index(), [("a", ALL, [])], ("ask", "a", {None: ("ask", "a", {None: leaf})})))

    def test_no_barrings(self):
        index, wishes = Index({("a", 1): Row()}), [("a", only(2), [])]
        leaf = ("broken", ("wish", 0))
        told = ("ask", "a", {None: leaf, 1: leaf})
        self.assertTrue(is_barring(index=index, wishes=wishes, thing=told))
        wrong = [leaf, ("ask", "a", {1: leaf}), ("ask", "a", {None: leaf}), ("ask", "a", {None: leaf, True: leaf}),
                 ("ask", "a", {None: leaf, 1: leaf, 2: leaf}), ("ask", "a", {None: leaf, 2: leaf}),
                 ("ask", "a", {None: leaf, 1: ("broken", ("wish", 0), 1)}), ("ask", "a", {None: leaf, 1: ("stop", ("wish", 0))}),
                 ("ask", "a", [leaf, leaf]), ("ask", "A", {None: told}),
                 ("ask", 1, {None: told}), ("ask", "b", told), ("ask", "a", {None: leaf, 1: leaf}, 1), ("ask", "a"),
                 ("broken", "wish"), ("stop", "a", {None: leaf, 1: leaf})]
        rules = [("wish", 1), ("wish", -1), ("wish", True), ("wish", False), ("wish", "0"), ("wish",), ("wish", 0, 0), (), None,
                 ("need", "a", 1, 0), ("need", "a", None, 0), ("clash", "a", True, 0), ("clash", "a", 1, 0),
                 ("feature", "a", 1, "f"), ("feature", "a", 1, 0), ("feature", "a", 2, "f"), ("clash", "b", 1, 0)]
        wrong += [("ask", "a", {None: leaf, 1: ("broken", rule)}) for rule in rules + odd_things()]
        for thing in wrong + odd_things():
            self.assertFalse(is_barring(index, wishes, thing))
        index = index.put(("a", 1), Row(needs=[(None, [("a", only(2))], [])], clashes=[("a", ALL)]))
        for rule, is_right in [(("need", "a", 1, 0), True), (("clash", "a", 1, 0), True), (["need", "a", 1, 0], True),
                               (("need", "a", 1), False), (("clash", "a", 1, 0, 0), False), (("bars", "a", 1, 0), False),
                               (("need", "a", 1, 1), False), (("clash", "a", True, 0), False), (("need", "a", 1, False), False)]:
            self.assertEqual(is_barring(index, wishes, ("ask", "a", {None: leaf, 1: ("broken", rule)})), is_right)

    def test_five_packages_with_four_versions(self):
        start = time.monotonic()
        names = "abcde"
        rows = {}
        for name in names:
            needs = [(None, [(other, ALL)], []) for other in names if other != name]
            for version in range(1, 5):
                rows[name, version] = Row(needs=needs, clashes=[("a", ALL)] if name == "e" else [("e", only(4))])
        index, wishes = Index(rows), [(name, ALL, []) for name in "abcd"]
        self.assertTrue(is_barring(index, wishes, barring(index, wishes)))
        self.assertEqual(blames(index, wishes), [(0,), (1,), (2,), (3,)])
        self.assertLess(time.monotonic() - start, 20)


class BlamesTest(unittest.TestCase):
    def test_all_sets(self):
        many = 0
        for index, wishes in WORLDS:
            met, others = sets_there(index, wishes)
            told = blames(index, wishes)
            self.assertEqual(told, [row for row in others if not any(set(other) < set(row) for other in others)])
            self.assertEqual(peaces(index, wishes), [row for row in met if not any(set(other) > set(row) for other in met)])
            self.assertEqual(told == [], first(index, wishes) is not None)
            # The peaces are what is left without the least sets that have a number in common with each blame.
            numbers = set(range(len(wishes)))
            rows = [set(row) for row in met + others if all(set(row) & set(blame) for blame in told)]
            least = [row for row in rows if not any(other < row for other in rows)]
            self.assertEqual(sorted(peaces(index, wishes)), sorted(tuple(sorted(numbers - row)) for row in least))
            many += len(told) > 1
        self.assertGreater(many, 10)

    def test_no_wishes(self):
        self.assertEqual((blames(Index(), []), peaces(index=Index(), wishes=[]), barring(Index(), [])), ([], [()], None))

    def test_order(self):
        index = Index({(name, 1): Row(clashes=[("d", ALL)] if name in "ab" else []) for name in "abcd"})
        wishes = [("d", ALL, []), ("a", ALL, []), ("b", only(2), []), ("b", ALL, [])]
        self.assertEqual(blames(index=index, wishes=wishes), [(2,), (0, 1), (0, 3)])
        self.assertEqual(peaces(index, wishes), [(0,), (1, 3)])

    def test_equal_wishes_and_rows_that_bar_themselves(self):
        index = Index({("a", 1): Row(clashes=[("a", ALL)]), ("a", 2): Row(needs=[(None, [("a", only(2))], [])])})
        self.assertEqual(blames(index, [("a", only(1), [])] * 2), [(0,), (1,)])
        self.assertEqual(peaces(index, [("a", only(1), [])] * 2), [()])
        self.assertEqual(peaces(index, [("a", only(2), [])] * 2), [(0, 1)])

    def test_bad_wishes(self):
        for call in (barring, blames, peaces, lambda index, wishes: is_barring(index, wishes, None)):
            self.assertEqual(raised(BadWish, lambda: call(Index(), [("a", ALL, []), None])).index, 1)
            self.assertEqual(raised(BadWish, lambda: call(Index(), None)).index, 0)


if __name__ == "__main__":
    unittest.main()
