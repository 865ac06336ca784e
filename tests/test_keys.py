"""Views, keys, twins and the plainest builds of packages (9.6 to 9.8)."""

import itertools
import unittest

from noteshold.books import Book, clash, step_of
from noteshold.builds import build
from noteshold.choices import choices
from noteshold.errors import BadChoice, BadName, BadWish, NoPackage, Ringed, TooEarly
from noteshold.index import Index, Row
from noteshold.keys import is_key, keys, twins, view, view_runs
from noteshold.rules import Rule
from noteshold.stages import Stage
from noteshold.steps import Run, Step
from noteshold.trees import Tree
from noteshold.versions import Range
from noteshold.works import Work
from noteshold.workshop import Workshop
from tests.packages import loose_packages, some_packages
from tests.worlds import odd_things, raised, read

EVERY = Range([(1, 20)])


def need(*packages):
    return (None, [(package, EVERY) for package in packages], [])


ROWS = {("app", 1): Row(needs=[need("lib", "log"), need("app")]), ("app", 2): Row(needs=[need("lib")]),
        ("lib", 2): Row(["f"], [("f", [("util", EVERY)], [])]), ("lib", 3): Row(), ("util", 1): Row(needs=[need("lib")])}
INDEX = Index(ROWS)


def view_there(index, choice, package):
    names = {name: {other for _, options, _ in index[name, version].needs for other, _ in options}
             for name, version in choice.items()}
    found = {package}
    while True:
        more = found | {other for name in found if name in choice for other in names[name]}
        if more == found:
            return {name: choice.get(name) for name in sorted(found)}
        found = more


def pairs_there(index, wishes, package, packages):
    told = choices(index, wishes)
    for i, j in itertools.combinations(range(len(told)), 2):
        one, other = told[i], told[j]
        if package in one and one[package] == other.get(package):
            if all(one.get(name) == other.get(name) for name in packages):
                if view_there(index, one, package) != view_there(index, other, package):
                    yield i, j


class ViewsTest(unittest.TestCase):
    def test_plain(self):
        choice = {"util": 1, "lib": 2, "app": 1}
        self.assertEqual(list(view(INDEX, choice, "app").items()), [("app", 1), ("lib", 2), ("log", None), ("util", 1)])
        self.assertEqual(view(INDEX, {"app": 1, "lib": 3}, "app"), {"app": 1, "lib": 3, "log": None})
        self.assertEqual(view(INDEX, {"app": 2}, "app"), {"app": 2, "lib": None})
        # What a need names counts, be it live or not; what is not chosen names nothing.
        self.assertEqual(view(INDEX, {"lib": 2}, "lib"), {"lib": 2, "util": None})
        self.assertEqual(view(index=INDEX, choice={"util": 1, "lib": 2}, package="util"), {"lib": 2, "util": 1})

    def test_small_worlds(self):
        for seed in range(80):
            index, wishes = loose_packages(seed, 4, 2)
            for choice in choices(index, wishes):
                for package in choice:
                    told = view(index, choice, package)
                    self.assertEqual(list(told.items()), list(view_there(index, choice, package).items()))

    def test_errors(self):
        for call in (view, view_runs):
            for thing in odd_things() + [{"app": 3}, {"none": 1}, {"app": True}, {1: 1}]:
                if thing != {}:
                    self.assertIs(raised(BadChoice, lambda: call(INDEX, thing, 7)).choice, thing)
            for thing in odd_things() + ["lib", "none"]:
                self.assertIs(raised(NoPackage, lambda: call(INDEX, {"app": 1}, thing)).package, thing)


class KeysTest(unittest.TestCase):
    def test_plain(self):
        rows = {("app", 1): Row(needs=[need("lib", "log")]), ("lib", 1): Row(), ("lib", 2): Row(needs=[need("util")]),
                ("util", 1): Row(), ("util", 2): Row(), ("log", 1): Row()}
        index, wishes = Index(rows), [("app", EVERY, [])]
        told = choices(index, wishes)
        self.assertEqual([sorted(choice.items()) for choice in told],
                         [[("app", 1), ("log", 1)], [("app", 1), ("lib", 2), ("util", 2)], [("app", 1), ("lib", 2), ("util", 1)],
                          [("app", 1), ("lib", 1)]])
        self.assertEqual(keys(index, wishes, "app"), [("lib", "util"), ("log", "util")])
        self.assertEqual(keys(index, wishes, "lib"), [("util",)])
        self.assertEqual(keys(index, wishes, "util"), [()])
        self.assertEqual(keys(index, wishes, "none"), [()])
        self.assertEqual(keys(index=index, wishes=[], package="app"), [()])
        self.assertEqual([twins(index, wishes, "app", packages) for packages in ([], ["lib"], ("util",), ["log", "lib"])],
                         [(0, 1), (1, 2), (0, 3), (1, 2)])
        self.assertIsNone(twins(index, wishes, "app", ["util", "none", "lib"]))
        self.assertTrue(is_key(index=index, wishes=wishes, package="app", packages=["util", "lib"]))
        self.assertFalse(is_key(index, wishes, "app", ["log", "lib"]))

    def test_small_worlds(self):
        many = 0
        for seed in range(150):
            index, wishes = loose_packages(seed, 4, 3) if seed % 2 else some_packages(seed, 4, 2)
            if len(choices(index, wishes)) > 40:
                continue
            for package in index.packages():
                others = [name for name in index.packages() if name != package]
                right = []
                for size in range(len(others) + 1):
                    for packages in itertools.combinations(others, size):
                        pair = next(pairs_there(index, wishes, package, packages), None)
                        self.assertEqual(twins(index, wishes, package, packages), pair)
                        self.assertEqual(is_key(index, wishes, package, list(packages)[::-1]), pair is None)
                        if pair is None and not any(set(part) <= set(packages) for part in right):
                            right.append(packages)
                self.assertEqual(keys(index, wishes, package), right)
                many += len(right) > 1
        self.assertGreater(many, 5)

    def test_errors(self):
        wishes = [("app", EVERY, [])]
        for call in (is_key, twins):
            for thing in odd_things() + ["app", "lib", "A"]:
                if thing != "read":
                    error = raised(BadName, lambda: call(INDEX, wishes, "app", ["lib", thing, 7]))
                    self.assertIs(error.name, thing)
                if not isinstance(thing, (list, tuple)):
                    self.assertIs(raised(BadName, lambda: call(INDEX, wishes, "app", thing)).name, thing)
            self.assertEqual(raised(BadWish, lambda: call(INDEX, [*wishes, 7, 8], "app", 7)).index, 1)
        self.assertEqual(raised(BadWish, lambda: keys(INDEX, 7, "app")).index, 0)


class PlainBuildsTest(unittest.TestCase):
    def test_plain(self):
        told = view_runs(INDEX, {"app": 1, "lib": 3}, "app")
        self.assertEqual(list(told), ["app", "lib"])
        text = "app 1, lib 3, log -"
        sights = [read("lock/app", "1"), read("lock/lib", "3"), read("lock/log", None), read("lib/view", "lib 3")]
        self.assertEqual(told["app"], Run(sights, "", [("view", text)]))
        self.assertEqual(told["lib"], Run([read("lock/lib", "3")], "", [("view", "lib 3")]))

    def test_rings(self):
        for package in ("lib", "util"):
            circle = raised(Ringed, lambda: view_runs(INDEX, {"lib": 2, "util": 1}, package)).circle
            self.assertEqual(sorted(circle), ["lib", "util"])
        # A package that names itself is no ring, and one that is not in the view does not count.
        self.assertEqual(list(view_runs(INDEX, {"app": 1}, "app")), ["app"])
        rows = {**ROWS, ("free", 1): Row()}
        self.assertEqual(list(view_runs(Index(rows), {"free": 1, "lib": 2, "util": 1}, "free")), ["free"])
        long = Index({("a", 1): Row(needs=[need("b")]), ("b", 1): Row(needs=[need("c", "d")]), ("c", 1): Row(),
                      ("d", 1): Row(needs=[need("b", "d")])})
        self.assertEqual(sorted(raised(Ringed, lambda: view_runs(long, {name: 1 for name in "abcd"}, "a")).circle), ["b", "d"])

    def test_they_are_builds(self):
        for seed in range(100):
            index, wishes = loose_packages(seed, 4, 2)
            found = {}
            for choice in choices(index, wishes)[:12]:
                for package in choice:
                    try:
                        told = view_runs(index, choice, package)
                    except Ringed as error:
                        circle = error.circle
                        for one, other in zip(circle, circle[1:] + circle[:1]):
                            self.assertIn(other, view_there(index, {one: choice[one]}, one))
                        self.assertGreater(len(circle), 1)
                        continue
                    steps = {name: Step(self.tree_of(run)) for name, run in told.items()}
                    lock = Tree({f"lock/{name}": str(version) for name, version in choice.items()})
                    self.assertEqual(build(Work(sorted(told)), steps, lock, [package]).runs, told)
                    found.setdefault(package, []).append((told[package], view(index, choice, package)))
            for rows in found.values():
                for (one, seen), (other, shown) in itertools.combinations(rows, 2):
                    self.assertFalse(clash(one, other))
                    self.assertEqual(one.made != other.made, seen != shown)

    def tree_of(self, run):
        tree = ("end", run.outcome, run.made)
        for look, answer in run.sights[::-1]:
            tree = ("ask", look, [(answer, tree)], ("end", "other", []))
        return tree

    def test_what_tells_the_view_is_a_right_rule(self):
        # Of a package its sights of lock for itself and for some packages alone are kept.
        right, wrong = 0, 0
        for seed in range(160):
            index, wishes = loose_packages(seed, 3, 2)
            told = choices(index, wishes)[:6]
            shop_of = self.shop_of_choices(index, told)
            if shop_of is None:
                continue
            for package in index.packages():
                having = [k for k, choice in enumerate(told) if package in choice]
                for packages in [part for size in range(3) for part in itertools.combinations("abc", size)]:
                    if package in packages:
                        continue
                    enough = all(self.is_told_apart(index, told[i], told[j], package, packages)
                                 for i, j in itertools.combinations(having, 2))
                    clean = [self.is_clean_behind(shop_of, package, i, j, packages)
                             for i, j in itertools.permutations(having, 2)]
                    self.assertEqual(enough, all(clean))
                    right, wrong = right + enough, wrong + (not enough)
        self.assertGreater(min(right, wrong), 10)

    def is_told_apart(self, index, one, other, package, packages):
        named = view_there(index, {package: one[package]}, package)
        if one[package] != other[package] or any(one.get(name) != other.get(name) for name in packages if name in named):
            return True
        return view_there(index, one, package) == view_there(index, other, package)

    def shop_of_choices(self, index, told):
        """The steps with all plainest builds of these choices, in an order, and the shelves of the choices."""
        runs = {name: [] for name in index.packages()}
        for choice in told:
            for package in choice:
                try:
                    for name, run in view_runs(index, choice, package).items():
                        runs[name].append(run)
                except Ringed:
                    return None
        steps = {name: step_of(Book(runs[name]), "none") for name in runs}
        shelves = {f"s{k}": Tree({f"lock/{name}": str(version) for name, version in one.items()}) for k, one in enumerate(told)}
        for order in itertools.permutations(steps):
            try:
                stage = Stage({**shelves, "void": Tree()}, {"h": ("void", "void", "c")})
                Workshop(stage, {name: steps[name] for name in order}, Rule([]))
                return stage, {name: steps[name] for name in order}
            except TooEarly:
                continue
        return None

    def is_clean_behind(self, shop_of, package, i, j, packages):
        """Whether the build of a package by one choice is left out by another one only where it makes the same."""
        stage, steps = shop_of
        rule = Rule([(sort, f"lock/{name}") for name in [package, *packages] for sort in ("contents", "lacking")])
        shop = Workshop(stage, steps, rule)
        shop.do(("move", "h", 0, f"s{i}"))
        shop.do(("build", "h"))
        first = shop.runs_of("h")[package]
        shop.do(("move", "h", 0, f"s{j}"))
        tree = shop.stage().sources("h")
        alone = Workshop(shop.stage(), steps, rule)
        alone.do(("build", "h"))
        is_found = shop.cache("c").answer(package, tree) is not None
        return not is_found or alone.runs_of("h")[package].made == first.made


if __name__ == "__main__":
    unittest.main()
