"""The meeting of steps and packages, and roads (9.1 to 9.3)."""

import random
import time
import unittest

from noteshold.books import Book, step_of
from noteshold.builds import build, together
from noteshold.choosing import chosen
from noteshold.errors import BadName, BadSight, BadSources, NotChooser, NotTogether, NotTrue, OwnFolder
from noteshold.index import Index, Row, index_of, wish_read, wish_text
from noteshold.reasons import reasons, sights_of
from noteshold.roads import is_road, parted, roads
from noteshold.sights import follows, least, nearest
from noteshold.steps import Run, Step
from noteshold.trees import Tree
from noteshold.versions import Range
from noteshold.works import Work
from tests.houses import needs_there, some_sources, some_work
from tests.test_builds import END, ask
from tests.worlds import folder, odd_things, raised, read, run

ALL = Range([(1, 20)])
WISH = ("read", "wish")


def roads_there(work, sources, runs, name):
    """The roads, word by word: by all reasons, one after the other."""
    ways = [[]]
    if "lock" in runs and runs["lock"].outcome != "odd":
        told = reasons(index_of(sources), wish_read(sources.files()["wish"]))
        ways = [sights_of(sources, reason) for reason in told]

    def road(here, way):
        found = [(WISH, sources.answer(WISH))] + way if here == "lock" else []
        for sight in [] if here == "lock" else runs[here].note():
            if work.need(sight[0]) is not None:
                found += road(work.need(sight[0]), way)
            elif sight[0][1].split("/")[0] not in work:
                found.append(sight)
        return sorted(least(found))

    told = [road(name, way) for way in ways]
    told = [one for k, one in enumerate(told) if one not in told[:k]]
    kept = [one for one in told if not any(other != one and all(follows(one, sight) for sight in other) for other in told)]
    return sorted(kept, key=lambda one: (len(one), [look for look, _ in one]))


def some_meetings(many):
    """Works with the chooser, sources, and the runs of builds in which nobody waits."""
    for seed in range(many):
        chance, work, steps, sources = some_work(seed, True)
        runs = build(work, steps, sources, work.names()).runs
        if len(runs) == len(work):
            yield chance, work, steps, sources, runs


def stays(work, steps, sources, runs, name):
    """Whether a name and all that it needs end as they did in the clean build of the names of the runs."""
    told = build(work, steps, sources, list(runs)).runs
    return all(one in told and told[one].ends_as(runs[one]) for one in needs_there(work, runs, name))


class AllRoadsTest(unittest.TestCase):
    def test_roads(self):
        several = 0
        for _, work, _, sources, runs in some_meetings(400):
            for name in runs:
                told = roads(work, sources, runs, name)
                self.assertEqual(told, roads_there(work, sources, runs, name))
                self.assertTrue(all(isinstance(road, list) for road in told))
                several += len(told) > 1
        self.assertGreater(several, 5)

    def test_what_is_enough_and_what_parts(self):
        many = [0, 0]
        for chance, work, _, sources, runs in some_meetings(250):
            pool = [(look, sources.answer(look)) for look in [
                WISH, ("list", "index"), ("list", "index/a"), ("list", "index/b"), ("read", "index/a/1"), ("read", "index/a/2"),
                ("read", "index/b/1"), ("read", "src"), ("list", "src"), ("read", "src/a"), ("read", "q/x"), ("list", "p")]]
            for name in runs:
                told = roads(work, sources, runs, name)
                road = chance.choice(told)
                less = [sight for sight in road if sight != chance.choice(road)]
                for sights in (road, less, chance.sample(pool, 6) + less, pool + road[:1], []):
                    enough = any(all(follows(sights, sight) for sight in one) for one in told)
                    self.assertEqual(is_road(work, sources, runs, name, sights), enough)
                    pair = parted(work, sources, runs, name, sights)
                    self.assertEqual(pair is None, enough)
                    many[enough] += 1
                    if pair is not None:
                        self.check_parted(work, sources, runs, name, sights, pair)
        self.assertGreater(min(many), 300)

    def check_parted(self, work, sources, runs, name, sights, pair):
        tree, steps = pair
        self.assertTrue(isinstance(pair, tuple) and all(tree.answer(look) == answer for look, answer in sights))
        self.assertEqual(list(steps), [one for one in work.names() if one in runs and one != "lock"])
        there = work.tree(sources, {one: dict(runs[one].made) for one in runs})
        self.assertTrue(all(steps[one].run(there) == runs[one] for one in steps))
        self.assertFalse(stays(work, steps, tree, runs, name))

    def test_with_a_road_true_all_stays(self):
        # 9.2: for the steps from which the runs are, and for others that have them, in all sources with a road.
        moved = 0
        for chance, work, steps, sources, runs in some_meetings(250):
            others = {one: step_of(Book([runs[one]]), "unlike") for one in runs if one != "lock"}
            for name in runs:
                for road in roads(work, sources, runs, name)[:3]:
                    for _ in range(3):
                        there = nearest(some_sources(chance), road)
                        self.assertTrue(stays(work, steps, there, runs, name))
                        self.assertTrue(stays(work, others, there, runs, name))
                        moved += there != sources
        self.assertGreater(moved, 300)

    def test_without_the_chooser(self):
        for seed in range(100):
            _, work, steps, sources = some_work(seed)
            runs = build(work, steps, sources, work.names()).runs
            for name in runs:
                told = roads(work, sources, runs, name)
                self.assertEqual((told, len(told)), (roads_there(work, sources, runs, name), 1))


class EdgesTest(unittest.TestCase):
    def setUp(self):
        self.work = Work(["app", "lib", "lock"])
        self.index = Index({("app", 1): Row(), ("app", 3): Row(needs=[(None, [("b", ALL)], []), (None, [("c", ALL)], [])])})
        self.files = {**self.index.files(), "wish": wish_text([("app", Range([(1, 1), (3, 3)]), [])])}
        self.sources = Tree({**self.files, "src": "1"})
        self.lock = chosen(self.sources)

    def test_a_road_of_sources(self):
        runs = {"lib": run(read("src", "1"), folder("src", None), read("app", None)), "app": run(folder("lib", None), read("t/x", None))}
        self.assertEqual(roads(self.work, self.sources, runs, "lib"), [[read("src", "1")]])
        self.assertEqual(roads(self.work, self.sources, runs, "app"), [[read("src", "1"), read("t/x", None)]])

    def test_a_road_that_needs_nothing(self):
        runs = {"lib": run(made=[("x", "")]), "app": run(folder("lib", ("x",)), read("lock", None))}
        for name in runs:
            self.assertEqual(roads(self.work, self.sources, runs, name), [[]])
            self.assertTrue(is_road(work=self.work, sources=self.sources, runs=runs, name=name, sights=[]))
            self.assertIsNone(parted(work=self.work, sources=self.sources, runs=runs, name=name, sights=()))

    def test_a_road_by_each_reason(self):
        runs = {"lock": self.lock, "app": run(read("lock/app", "1"))}
        told = roads(self.work, self.sources, runs, "lock")
        self.assertEqual(len(told), 2)
        for road, package in zip(told, "bc"):
            looks = [("read", "index/app/1"), ("read", "index/app/3")]
            looks += [("read", f"index/{package}/{version}") for version in range(1, 21)] + [WISH]
            self.assertEqual(road, [(look, self.sources.answer(look)) for look in sorted(looks)])
        self.assertEqual(roads(work=self.work, sources=self.sources, runs=runs, name="app"), told)
        # A list shows at once that a package has no versions, and one reason then comes to less than the other one.
        runs["app"] = run(read("lock/app", "1"), folder("index/b", None))
        told = roads(self.work, self.sources, runs, "app")
        self.assertEqual([[look for look, _ in road] for road in told],
                         [[("list", "index/b"), ("read", "index/app/1"), ("read", "index/app/3"), WISH]])
        self.assertTrue(is_road(self.work, self.sources, runs, "app", [folder("index/b", None), folder("index/c", None),
                                                                       *told[0][1:]]))

    def test_odd_wishes(self):
        for files in ({}, {"wish": "x"}, {"wish/a": ""}):
            sources = Tree(files)
            runs = {"lock": chosen(sources), "app": run(folder("lock", None))}
            told = roads(self.work, sources, runs, "app")
            self.assertEqual(told, [[(WISH, sources.answer(WISH))]])
            tree, _ = parted(self.work, sources, runs, "app", [])
            self.assertNotEqual(chosen(tree).outcome, "odd")
            self.assertTrue(is_road(self.work, sources, runs, "lock", told[0] + [folder("index", None)]))
        # What is in a folder shows that there is no file.
        self.assertTrue(is_road(self.work, sources, runs, "app", [folder("wish", ("a",))]))

    def test_no_wishes(self):
        sources = Tree({**self.index.files(), "wish": ""})
        runs = {"lock": chosen(sources)}
        self.assertEqual(roads(self.work, sources, runs, "lock"), [[(WISH, "")]])
        self.assertEqual(chosen(parted(self.work, sources, runs, "lock", [])[0]).outcome, "odd")

    def test_nothing_can_be(self):
        sources = Tree({"wish": "want app 3\n", "index/app/3": "need b 2\n"})
        runs = {"lock": chosen(sources)}
        self.assertEqual([[look for look, _ in road] for road in roads(self.work, sources, runs, "lock")],
                         [[("read", "index/app/3"), ("read", "index/b/2"), WISH]])
        tree, steps = parted(self.work, sources, runs, "lock", [(WISH, "want app 3\n"), read("index/b/2", None)])
        self.assertEqual((chosen(tree).outcome, steps), ("right", {}))

    def test_cells_that_are_covered_in_part(self):
        # All but one of the versions of a cell are seen; the free row has to stand at that one.
        runs = {"lock": self.lock}
        road = roads(self.work, self.sources, runs, "lock")[0]
        for left in [read("index/b/7", None), read("index/b/20", None)]:
            sights = [sight for sight in road if sight != left]
            tree, _ = parted(self.work, self.sources, runs, "lock", sights + [folder("index/c/5", None)])
            self.assertIsNotNone(tree.answer(left[0]))
            self.assertEqual(dict(chosen(tree).made)["app"], "3")

    def test_a_name_that_stays_by_luck(self):
        # app needs lock, which moves, though app itself makes the same.
        runs = {"lock": self.lock, "app": run(folder("lock", ("app",)))}
        sights = [sight for sight in roads(self.work, self.sources, runs, "app")[0] if sight[0] != WISH]
        self.assertFalse(is_road(self.work, self.sources, runs, "app", sights))

    def test_in_time(self):
        start = time.monotonic()
        chance = random.Random(2)
        rows = {}
        for name in "abcd":
            for version in (3, 8, 14):
                others = [other for other in "abcd" if other != name]
                rows[name, version] = Row(needs=[(None, [(other, Range([(chance.randint(1, 9), 12)])) for other in others[:2]], [])])
        names = ["e", "f", "g", "h", "i", "j"]
        steps = {}
        for place, name in enumerate(names):
            tree = ("end", "", [("x", "1")])
            for path in [f"src/{name}{k}" for k in range(6)] + [f"lock/{'abcd'[place % 4]}", f"{names[place - 1]}/x"][:2 if place else 1]:
                tree = ask(path, "read", [("no", END)], tree)
            steps[name] = Step(tree)
        work = Work([*names, "lock"])
        sources = Tree({**Index(rows).files(), "wish": wish_text([("a", ALL, []), ("b", Range([(1, 9)]), [])])})
        runs = build(work, steps, sources, names).runs
        told = roads(work, sources, runs, "j")
        self.assertTrue(is_road(work, sources, runs, "j", told[0]))
        for k in range(len(told[0])):
            self.assertIsNotNone(parted(work, sources, runs, "j", told[0][:k] + told[0][k + 1:]))
        self.assertLess(time.monotonic() - start, 30)


class WrongInputsTest(unittest.TestCase):
    def setUp(self):
        self.work = Work(["b", "a", "lock"])

    def calls(self, sources, runs, name, sights=None):
        return [lambda: roads(self.work, sources, runs, name), lambda: is_road(self.work, sources, runs, name, sights),
                lambda: parted(self.work, sources, runs, name, sights)]

    def test_errors_in_their_order(self):
        odd = run(read("wish", None), end="odd")
        own, far, wrong = run(folder("a", None)), run(read("b/x", None)), run(read("s", "1"))
        for call in self.calls(Tree({"s": "", "lock/a": "", "b": ""}), {"z": 0}, 0):
            self.assertEqual(raised(BadSources, call).path, "b")
        for call in self.calls(Tree(), {"b": far, None: own, "z": 0}, 0):
            self.assertIsNone(raised(BadName, call).name)
        for call in self.calls(Tree(), {"a": own, "b": far, "lock": wrong}, 0):
            self.assertEqual(raised(OwnFolder, call).name, "b")
        for told in [{"a": far, "lock": own}, {"a": wrong, "lock": wrong}, {"a": run(folder("b", None)), "b": own, "lock": odd}]:
            for call in self.calls(Tree(), told, 0):
                self.assertEqual(raised(NotTogether, call).why, together(self.work, Tree(), told))
        for lock in [wrong, run(read("wish", "1"), end="odd"), run(end="odd"), run(read("wish", "1"), end="odd", made=[("a", "1")]),
                     run(read("wish", "1"), read("s", "1"), end="odd"), run(read("wish", ""), end="odd")]:
            files = {look[1]: answer for look, answer in lock.sights}
            is_right = lock == run(read("wish", "1"), end="odd")
            for call in self.calls(Tree(files), {"lock": lock}, "c"):
                self.assertTrue(raised(BadName if is_right else NotChooser, call))

    def test_names(self):
        for thing in odd_things() + ["b", "c"]:
            for call in self.calls(Tree(), {"a": run()}, thing):
                self.assertIs(raised(BadName, call).name, thing)

    def test_sights(self):
        runs, sources = {"a": run(read("s", "1"))}, Tree({"s": "1"})
        for thing in odd_things():
            for call in self.calls(sources, runs, "a", [read("s", "2"), thing, 0])[1:]:
                self.assertEqual(raised(BadSight, call).index, 1)
        for call in self.calls(sources, runs, "a", [read("s", "1"), folder("s", ("x",)), read("t", "")])[1:]:
            self.assertEqual(raised(NotTrue, call).index, 1)
        for call in self.calls(sources, runs, "a")[1:]:
            self.assertEqual(raised(BadSight, call).index, 0)

    def test_sights_of_the_folders_of_steps(self):
        runs, sources = {"a": run(read("s", "1"), read("b", None))}, Tree({"s": "1"})
        tree, steps = parted(self.work, sources, runs, "a", [folder("b", None), read("a/x", None), read("b", None)])
        self.assertEqual((list(steps), tree.firsts() in ([], ["s"]), tree.answer(("read", "s")) != "1"), (["a"], True, True))
        self.assertTrue(is_road(self.work, sources, runs, "a", [folder("b", None), [["read", "s"], "1"]]))


if __name__ == "__main__":
    unittest.main()
