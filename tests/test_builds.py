"""The clean build, runs that are together, and how books end (5.2, 5.3)."""

import itertools
import unittest

from noteshold.books import Book
from noteshold.builds import build, ends_of, together
from noteshold.choosing import chosen
from noteshold.errors import BadName, BadSources, OwnFolder
from noteshold.index import Index, Row, wish_text
from noteshold.steps import Run, Step
from noteshold.trees import Tree
from noteshold.versions import Range
from noteshold.works import Work
from tests.houses import some_books, some_work
from tests.worlds import odd_things, raised

END = ("end", "", [])


def ask(path, word="read", cases=(), other=END):
    return ("ask", (word, path), list(cases), other)


def built_by_hand(chance, work, steps, sources, wanted):
    """Steps go on by a look each, in an order by chance; the runs of those that ended, and the looks of the others."""
    here = {name: (steps[name].tree(), []) for name in work.names()}
    runs, wanted = {}, set(wanted)
    while True:
        moved = False
        for name in chance.sample(sorted(wanted), len(wanted)):
            part, sights = here[name]
            if name in runs:
                continue
            moved_here = True
            if part[0] == "end":
                runs[name] = Run(sights, part[1], part[2])
            elif work.need(part[1]) is None or work.need(part[1]) in runs:
                answer = work.tree(sources, {other: dict(run.made) for other, run in runs.items()}).answer(part[1])
                here[name] = (dict(part[2]).get(answer, part[3]), sights + [(part[1], answer)])
            else:
                moved_here = work.need(part[1]) not in wanted
                wanted.add(work.need(part[1]))
            moved = moved or moved_here
        if not moved:
            return runs, {name: here[name][0][1] for name in wanted if name not in runs}


def ring_by_hand(work, waits):
    if not waits:
        return None
    way = [min(waits, key=work.names().index)]
    while work.need(waits[way[-1]]) not in way:
        way.append(work.need(waits[way[-1]]))
    ring = way[way.index(work.need(waits[way[-1]])):]
    first = ring.index(min(ring, key=work.names().index))
    return ring[first:] + ring[:first]


def together_by_hand(work, sources, runs):
    names = [name for name in work.names() if name in runs]
    for name in names:
        for k, (look, _) in enumerate(runs[name].sights):
            if work.need(look) is not None and work.need(look) not in runs:
                return ("lacks", name, k)
    tree = work.tree(sources, {name: dict(runs[name].made) for name in names})
    for name in names:
        for k, (look, answer) in enumerate(runs[name].sights):
            if tree.answer(look) != answer:
                return ("untrue", name, k)
    return None


class BuildTest(unittest.TestCase):
    def test_all_orders_come_to_it(self):
        waited = 0
        for seed in range(400):
            chance, work, steps, sources = some_work(seed)
            wanted = chance.sample(work.names(), chance.randint(0, len(work)))
            told = build(work, steps, sources, wanted + wanted[:1])
            for _ in range(2):
                runs, waits = built_by_hand(chance, work, steps, sources, wanted)
                self.assertEqual((told.runs, told.waits), (runs, waits))
            self.assertEqual(list(told.runs), [name for name in work.names() if name in told.runs])
            self.assertEqual(list(told.waits), [name for name in work.names() if name in told.waits])
            self.assertEqual(told.ring(), ring_by_hand(work, told.waits))
            self.assertEqual(told.made_files(), {name: dict(run.made) for name, run in told.runs.items()})
            self.assertEqual(told.tree(), work.tree(sources, told.made_files()))
            self.assertTrue(all(run.holds(told.tree()) for run in told.runs.values()))
            orders = [list(row) for row in itertools.permutations(told.runs) if all(
                work.need(look) is None or work.need(look) in row[:k]
                for k, name in enumerate(row) for look, _ in told.runs[name].sights)]
            self.assertEqual(told.order(), min(orders, key=lambda row: [work.names().index(name) for name in row]))
            waited += len(told.waits) > 0
        self.assertGreater(waited, 50)

    def test_what_is_looked_into_is_wanted(self):
        work = Work(["b", "a", "c"])
        steps = {"a": Step(ask("b/x", "read", [("1", ("end", "seen", []))])), "b": Step(("end", "", [("x", "1")])),
                 "c": Step(END)}
        told = build(work=work, steps=steps, sources=Tree({"s": ""}), wanted=("a",))
        self.assertEqual((list(told.runs), told.waits, told.order(), told.ring()), (["b", "a"], {}, ["b", "a"], None))
        self.assertEqual(told.runs["a"].outcome, "seen")
        self.assertEqual((told.made_files(), told.tree()), ({"b": {"x": "1"}, "a": {}}, Tree({"s": "", "b/x": "1"})))
        self.assertEqual((build(work, steps, Tree(), []).runs, build(work, steps, Tree(), []).tree()), ({}, Tree()))

    def test_rings_and_steps_that_wait_for_them(self):
        work = Work(["d", "c", "b", "a"])
        steps = {"a": Step(ask("b", "list")), "b": Step(ask("c", "list")), "c": Step(ask("a/x")), "d": Step(ask("b/y"))}
        told = build(work, steps, Tree(), ["d"])
        self.assertEqual(list(told.waits.items()), [("d", ("read", "b/y")), ("c", ("read", "a/x")), ("b", ("list", "c")),
                                                    ("a", ("list", "b"))])
        self.assertEqual((told.ring(), told.order(), told.runs), (["c", "a", "b"], [], {}))
        # A step that could wait does not where it is not shown the way to it.
        steps["c"] = Step(ask("s", "read", [("1", ask("a/x"))]))
        self.assertIsNone(build(work, steps, Tree(), ["d"]).ring())
        self.assertEqual(build(work, steps, Tree({"s": "1"}), ["a"]).waits["c"], ("read", "a/x"))

    def test_the_ring_of_the_first_that_waits(self):
        work = Work(["e", "a", "b", "c", "d"])
        needs = {"e": "d", "a": "b", "b": "a", "c": "d", "d": "c"}
        steps = {name: Step(ask(needs[name], "list")) for name in needs}
        self.assertEqual(build(work, steps, Tree(), ["a", "e"]).ring(), ["c", "d"])
        self.assertEqual(build(work, steps, Tree(), ["c", "a"]).ring(), ["a", "b"])

    def test_reading_just_a_name_needs_nothing(self):
        work = Work(["a", "b"])
        told = build(work, {"a": Step(ask("b")), "b": Step(ask("a"))}, Tree(), ["a", "b"])
        self.assertEqual([told.runs[name].sights for name in "ab"], [((("read", "b"), None),), ((("read", "a"), None),)])

    def test_equal(self):
        work = Work(["a", "b"])
        steps = {"a": Step(ask("s")), "b": Step(ask("a", "list"))}
        one = build(work, steps, Tree({"s": "1"}), ["a"])
        self.assertTrue(one == build(work, steps, Tree({"s": "1", "t": "2"}), ["a", "a"]))
        self.assertTrue(one != build(work, steps, Tree({"s": "1"}), ["b"]))
        self.assertTrue(one != build(work, steps, Tree({"s": "2"}), ["a"]))
        for thing in odd_things():
            self.assertFalse(one == thing)


class ChooserTest(unittest.TestCase):
    def setUp(self):
        self.index = Index({("app", 1): Row(), ("app", 2): Row()})
        self.wish = wish_text([("app", Range([(1, 20)]), [])])

    def test_lock_is_the_chooser_where_it_lacks(self):
        work = Work(["app", "lock"])
        steps = {"app": Step(ask("lock/app", "read", [("2", ("end", "new", []))]))}
        sources = Tree({**self.index.files(), "wish": self.wish})
        told = build(work, steps, sources, ["app"])
        self.assertEqual((told.runs["lock"], told.runs["app"].outcome), (chosen(sources), "new"))
        self.assertEqual(told.tree().answer(("list", "lock")), ("app",))
        own = build(work, {**steps, "lock": Step(("end", "", [("app", "1")]))}, sources, ["app"])
        self.assertEqual((own.runs["app"].outcome, own.runs["lock"].sights), ("", ()))

    def test_without_lock_in_the_work_nobody_chooses(self):
        steps = {"app": Step(ask("lock/app"))}
        sources = Tree({**self.index.files(), "wish": self.wish, "lock/app": "7"})
        self.assertEqual(build(Work(["app"]), steps, sources, ["app"]).runs["app"].sights, ((("read", "lock/app"), "7"),))

    def test_it_waits_for_a_step_named_index(self):
        work = Work(["lock", "index"])
        index = Step(ask("src", "read", [("1", ("end", "", [("app/1", ""), ("app/2", "")]))]))
        told = build(work, {"index": index}, Tree({"wish": self.wish, "src": "1"}), ["lock"])
        self.assertEqual((told.order(), told.runs["lock"].made), (["index", "lock"], (("app", "2"),)))
        self.assertEqual(build(work, {"index": index}, Tree({"wish": self.wish}), ["lock"]).runs["lock"].outcome, "none")
        self.assertEqual(list(build(work, {"index": index}, Tree(), ["lock"]).runs), ["lock"])
        ring = build(work, {"index": Step(ask("lock/app"))}, Tree({"wish": self.wish}), ["index"])
        self.assertEqual((ring.ring(), ring.waits["lock"]), (["lock", "index"], ("list", "index/app")))

    def test_a_step_named_wish_makes_no_wish(self):
        work = Work(["lock", "wish"])
        told = build(work, {"wish": Step(("end", "", [("x", "")]))}, Tree(), ["lock"])
        self.assertEqual((list(told.runs), told.runs["lock"].outcome), (["lock"], "odd"))


class TogetherTest(unittest.TestCase):
    def test_all_builds_are(self):
        for seed in range(200):
            _, work, steps, sources = some_work(seed, seed % 2 == 0)
            told = build(work, steps, sources, work.names())
            self.assertIsNone(together(work, sources, told.runs))

    def test_ends_of_all_tuples(self):
        found = {}
        for seed in range(300):
            chance, work, steps, sources = some_work(seed)
            books = some_books(chance, work, steps, sources)
            names = [name for name in work.names() if name in books]
            ends, alone = [], 0
            for numbers in itertools.product(*[range(len(books[name])) for name in names]):
                runs = {name: books[name].all_runs()[k] for name, k in zip(names, numbers)}
                told, by_hand = together(work, sources, runs), together_by_hand(work, sources, runs)
                if by_hand is not None:
                    self.assertEqual(told, by_hand)
                else:
                    ends.append(numbers)
                    alone += told is None
                    if told is None:
                        # Right for all steps that have them: so also for the ones from which they come.
                        self.assertEqual(build(work, steps, sources, names).runs, runs)
                    else:
                        self.is_ring(work, runs, told)
                found[told and told[0]] = found.get(told and told[0], 0) + 1
            self.assertEqual(ends_of(work, sources, books), ends)
            self.assertLessEqual(alone, 1)
        self.assertEqual(set(found), {None, "lacks", "untrue", "ring"})

    def is_ring(self, work, runs, told):
        word, ring = told
        self.assertEqual((word, type(ring), len(set(ring))), ("ring", list, len(ring)))
        for k, name in enumerate(ring):
            self.assertIn(ring[(k + 1) % len(ring)], [work.need(look) for look, _ in runs[name].sights])

    def test_first_of_what_there_is(self):
        work = Work(["b", "a", "c"])
        one = Run([(("read", "s"), "1"), (("list", "c"), None)], "")
        runs = {"a": one, "b": Run([(("read", "s"), "2")], ""), "c": Run([(("read", "a/x"), None)], "")}
        self.assertEqual(together(work, Tree(), {"a": one, "b": runs["b"]}), ("lacks", "a", 1))
        self.assertEqual(together(work, Tree(), runs), ("untrue", "b", 0))
        self.assertEqual(together(work, Tree({"s": "2"}), runs), ("untrue", "a", 0))
        self.assertEqual(together(work, Tree({"s": "1"}), {"a": one, "c": runs["c"]})[0], "ring")
        runs["c"] = Run([(("list", "a"), ("y",))], "")
        self.assertEqual(together(work, Tree({"s": "1"}), {"a": one, "c": runs["c"]}), ("untrue", "c", 0))
        self.assertIsNone(together(work=work, sources=Tree({"s": "1"}), runs={}))

    def test_reads_of_just_a_name(self):
        work = Work(["a", "b"])
        self.assertIsNone(together(work, Tree(), {"a": Run([(("read", "b"), None)], "")}))
        self.assertEqual(together(work, Tree(), {"a": Run([(("read", "b"), "")], "")}), ("untrue", "a", 0))

    def test_ends_of_rings_and_of_nothing(self):
        work = Work(["a", "b", "c"])
        quiet, loud = Run([(("read", "b/x"), None)], ""), Run([(("read", "b/x"), "1")], "", [("x", "1")])
        books = {"b": Book([Run([(("read", "a/x"), None)], ""), Run([(("read", "a/x"), "1")], "", [("x", "1")])]),
                 "a": Book([loud, quiet])}
        self.assertEqual(ends_of(work=work, sources=Tree(), books=books), [(0, 1), (1, 0)])
        self.assertEqual((ends_of(work, Tree(), {}), ends_of(work, Tree(), {**books, "c": Book()})), ([()], []))
        # What needs a step without a book lacks it.
        self.assertEqual(ends_of(work, Tree(), {"a": Book([quiet])}), [])


class WrongInputsTest(unittest.TestCase):
    def setUp(self):
        self.work = Work(["b", "a"])
        self.steps = {"a": Step(END), "b": Step(END)}

    def test_bad_sources_ahead_of_all_else(self):
        bad = Tree({"z": "", "b/x": "", "a": ""})
        for call in [lambda: build(self.work, {"z": 0}, bad, ["z"]), lambda: together(self.work, bad, {"z": 0}),
                     lambda: ends_of(self.work, bad, {"z": 0})]:
            self.assertEqual(raised(BadSources, call).path, "a")

    def test_bad_names_ahead_of_own_folders(self):
        own, far = Run([(("list", "a"), None)], ""), Run([(("list", "b/x/y"), None)], "")
        for thing in [None, "c", "A", 0, ("a",), ""]:
            told = {"a": own, thing: own, "z": own}
            self.assertIs(raised(BadName, lambda: together(self.work, Tree(), told)).name, thing)
            books = {name: Book([run]) for name, run in told.items()}
            self.assertIs(raised(BadName, lambda: ends_of(self.work, Tree(), books)).name, thing)
            steps = {"a": Step(ask("a/x")), thing: Step(END)}
            self.assertIs(raised(BadName, lambda: build(self.work, steps, Tree(), [])).name, thing)
        self.assertEqual(raised(OwnFolder, lambda: together(self.work, Tree(), {"a": own, "b": far})).name, "b")
        books = {"a": Book([Run([], "")]), "b": Book([far])}
        self.assertEqual(raised(OwnFolder, lambda: ends_of(self.work, Tree(), books)).name, "b")
        # All looks of a step count, also where none comes to them, but not reading just its name.
        steps = {"a": Step(ask("a", "read", [("1", ask("a/x"))])), "b": Step(END)}
        self.assertEqual(raised(OwnFolder, lambda: build(self.work, steps, Tree(), ["b"])).name, "a")
        self.assertEqual(list(build(self.work, {**steps, "a": Step(ask("a"))}, Tree(), ["a"]).runs), ["a"])

    def test_steps_that_lack(self):
        self.assertEqual(raised(BadName, lambda: build(self.work, {}, Tree(), ["z"])).name, "b")
        self.assertEqual(raised(BadName, lambda: build(self.work, {"b": Step(END)}, Tree(), ["z"])).name, "a")
        self.assertEqual(raised(OwnFolder, lambda: build(self.work, {"b": Step(ask("b/x"))}, Tree(), [])).name, "b")
        self.assertEqual(build(Work(["lock"]), {}, Tree(), []).runs, {})

    def test_wanted(self):
        for thing in odd_things() + ["c", ["a"], {"a": 1}]:
            self.assertIs(raised(BadName, lambda: build(self.work, self.steps, Tree(), ["a", thing, "z"])).name, thing)

    def test_later_changes(self):
        told = build(self.work, self.steps, Tree(), ["a"])
        self.steps.clear()
        told.made_files()["a"]["x"] = "1"
        told.order().append("b")
        self.assertEqual((told.made_files(), told.order(), told.tree()), ({"a": {}}, ["a"], Tree()))


if __name__ == "__main__":
    unittest.main()
