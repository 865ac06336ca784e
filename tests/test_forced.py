"""What notes settle, two works, forced runs, and what is left (5.4 to 5.7)."""

import unittest

from noteshold.books import Book, step_of
from noteshold.builds import build, together
from noteshold.choosing import chosen
from noteshold.errors import BadName, BadSources, Known, NotTogether, OtherStep, OwnFolder, Ringed
from noteshold.forced import again_needed, forced, rebuilt, settled, standing, two_works
from noteshold.sights import tree_of
from noteshold.steps import Run, Step
from noteshold.trees import Tree
from noteshold.works import Work
from tests.houses import some_books, some_sources, some_work
from tests.test_builds import END, ask
from tests.worlds import folder, odd_things, raised, read, run


def has_all(step, book):
    return all(step.run(tree_of(one.sights)) == one for one in book)


def settled_by_hand(work, sources, books):
    found = {}
    while True:
        tree = work.tree(sources, {name: dict(one.made) for name, one in found.items()})
        more = {name: one for name in work.names() if name not in found for one in books.get(name, [])
                if all(work.need(look) in (None, *found) for look, _ in one.sights) and one.holds(tree)}
        if not more:
            return found
        found.update(more)


def way_by_hand(work, sources, books, known, name):
    """The way of a step, and the step that the next look behind it needs, None if the way ends."""
    tree = work.tree(sources, {other: dict(one.made) for other, one in known.items()})
    way = []
    while True:
        going = [one for one in books.get(name, []) if one.sights[:len(way)] == tuple(way)]
        if not going:
            return way, None
        look = going[0].sights[len(way)][0]
        if work.need(look) is not None and work.need(look) not in known:
            return way, work.need(look)
        way.append((look, tree.answer(look)))


class AllWorksTest(unittest.TestCase):
    def setUp(self):
        self.worlds = []
        for seed in range(300):
            chance, work, steps, sources = some_work(seed)
            self.worlds.append((chance, work, steps, sources, some_books(chance, work, steps, sources)))

    def test_settled_and_standing(self):
        words = {}
        for _, work, steps, sources, books in self.worlds:
            known = settled_by_hand(work, sources, books)
            self.assertEqual(settled(work, sources, books), known)
            self.assertEqual(list(settled(work, sources, books)), [name for name in work.names() if name in known])
            stands = standing(work, sources, books)
            self.assertEqual(list(stands), work.names())
            ways = {name: way_by_hand(work, sources, books, known, name) for name in work.names() if name not in known}
            for name, told in stands.items():
                words[told[0]] = words.get(told[0], 0) + 1
                if name in known:
                    self.assertEqual(told, ("settled", known[name]))
                    self.assertEqual(build(work, steps, sources, [name]).runs[name], known[name])
                    continue
                chain = [name]
                while ways[chain[-1]][1] is not None and ways[chain[-1]][1] not in chain:
                    chain.append(ways[chain[-1]][1])
                if ways[chain[-1]][1] is not None:
                    self.assertEqual(told[0], "ring")
                    self.assertEqual(sorted(told[1]), sorted(chain[chain.index(ways[chain[-1]][1]):]))
                    for k, one in enumerate(told[1]):
                        self.assertEqual(ways[one][1], told[1][(k + 1) % len(told[1])])
                    self.assertEqual(told[1][0], min(told[1], key=work.names().index))
                    self.assertIn(name, build(work, steps, sources, [name]).waits)
                else:
                    way, needed = ways[name]
                    self.assertEqual(told, ("open", way) if needed is None else ("waits", needed, way))
        self.assertEqual(set(words), {"settled", "open", "waits", "ring"})
        self.assertGreater(min(words.values()), 5)

    def test_two_works(self):
        for _, work, _, sources, books in self.worlds:
            for name, told in standing(work, sources, books).items():
                if told[0] == "settled":
                    error = raised(Known, lambda: two_works(work, sources, books, name))
                    self.assertEqual(error.which, told[1])
                elif told[0] == "ring":
                    self.assertEqual(raised(Ringed, lambda: two_works(work, sources, books, name)).circle, told[1])
                else:
                    pair = two_works(work, sources, books, name)
                    self.assertEqual((type(pair), len(pair)), (tuple, 2))
                    outcomes = []
                    for steps in pair:
                        self.assertEqual(list(steps), work.names())
                        self.assertTrue(all(has_all(steps[one], books[one]) for one in books))
                        outcomes.append(build(work, steps, sources, [name]).runs[name].outcome)
                    self.assertNotEqual(*outcomes)

    def test_forced_and_rebuilt(self):
        many = {}
        for chance, work, steps, sources, books in self.worlds:
            wanted = chance.sample(work.names(), chance.randint(0, len(work)))
            stands = standing(work, sources, books)
            must = set()
            for name in wanted:
                while stands[name][0] == "waits":
                    name = stands[name][1]
                must |= {name} if stands[name][0] == "open" else set()
            self.assertEqual(forced(work, sources, books, wanted), [name for name in work.names() if name in must])
            told = rebuilt(work, steps, sources, books, wanted)
            self.assertEqual(told.build, build(work, steps, sources, wanted))
            for _ in range(2):
                ran, known = rebuilt_by_hand(chance, work, steps, sources, books, wanted)
                self.assertEqual(told.ran, [name for name in work.names() if name in ran])
                self.assertEqual(told.books, known)
            self.assertEqual(list(told.books), [name for name in work.names() if name in told.books])
            for name, book in books.items():
                self.assertEqual(told.books[name].all_runs()[:len(book)], book.all_runs())
            many[len(told.ran)] = many.get(len(told.ran), 0) + 1
            # All that was wanted is settled now, or waits, and what is settled needs no run.
            later = settled(work, sources, told.books)
            self.assertTrue(all(later.get(name) == told.build.runs.get(name) for name in wanted))
            self.assertTrue(all(name in later for name in wanted if name not in told.build.waits))
            self.assertFalse(any(name in told.ran for name in settled(work, sources, books)))
        self.assertGreater(min(many.get(k, 0) for k in range(4)), 3)

    def test_again_needed(self):
        words = {}
        for chance, work, steps, sources, _ in self.worlds:
            runs = build(work, steps, sources, work.names()).runs
            later = chance.choice([some_sources(chance), sources, Tree()])
            told = again_needed(work, runs, later)
            self.assertEqual(list(told), list(runs))
            known = settled_by_hand(work, later, {name: [one] for name, one in runs.items()})
            tree = work.tree(later, {name: dict(one.made) for name, one in known.items()})
            others = {name: step_of(Book([runs[name]]), "unlike") if name in runs else steps[name] for name in steps}
            ends = [build(work, some, later, list(runs)).runs for some in (steps, others)]
            for name, word in told.items():
                words[word] = words.get(word, 0) + 1
                sights = [sight for sight in runs[name].sights if work.need(sight[0]) in (None, *known)]
                untrue = any(tree.answer(look) != answer for look, answer in sights)
                self.assertEqual(word, "left" if name in known else "run" if untrue else "open")
                if word != "open":
                    self.assertTrue(all((end.get(name) == runs[name]) == (word == "left") for end in ends))
        self.assertGreater(min(words[word] for word in ("left", "run", "open")), 20)


def rebuilt_by_hand(chance, work, steps, sources, books, wanted):
    """Runs what has to be run, one look at a time, in an order by chance."""
    known, ran, wanted = dict(books), {}, list(wanted)
    while True:
        ended = settled_by_hand(work, sources, known)
        tree = work.tree(sources, {name: dict(one.made) for name, one in ended.items()})
        begun = [name for name in ran if name not in ended]
        fresh = [name for name in forced(work, sources, known, wanted) if name not in ran]
        moves = [(name, None) for name in fresh]
        for name in begun:
            part, sights = ran[name]
            if part[0] == "end" or work.need(part[1]) in (None, *ended):
                moves.append((name, part))
            elif work.need(part[1]) not in wanted:
                wanted.append(work.need(part[1]))
                moves.append((None, None))
        if not moves:
            return ran, known
        name, part = chance.choice(moves)
        if name is not None and part is None:
            ran[name] = (steps[name].tree(), [])
        elif name is not None and part[0] == "end":
            known[name] = Book([*known.get(name, []), Run(ran[name][1], part[1], part[2])])
        elif name is not None:
            answer = tree.answer(part[1])
            ran[name] = (dict(part[2]).get(answer, part[3]), ran[name][1] + [(part[1], answer)])


class EdgesTest(unittest.TestCase):
    def setUp(self):
        self.work = Work(["d", "c", "b", "a"])

    def test_nothing_is_settled_by_a_ring(self):
        books = {"a": Book([run(folder("b", None))]), "b": Book([run(folder("a", None))])}
        self.assertEqual(settled(self.work, Tree(), books), {})
        told = standing(self.work, Tree(), books)
        self.assertEqual(told, {"d": ("open", []), "c": ("open", []), "b": ("ring", ["b", "a"]), "a": ("ring", ["b", "a"])})
        self.assertEqual(forced(self.work, Tree(), books, ["a", "b"]), [])
        self.assertEqual(forced(self.work, Tree(), books, ["a", "c"]), ["c"])

    def test_books_without_runs(self):
        books = {"a": Book(), "b": Book([run(read("s", "1"))])}
        told = standing(work=self.work, sources=Tree({"s": "1"}), books=books)
        self.assertEqual(told, {"d": ("open", []), "c": ("open", []), "b": ("settled", run(read("s", "1"))), "a": ("open", [])})
        self.assertEqual(standing(self.work, Tree({"s": "2"}), books)["b"], ("open", [read("s", "2")]))
        self.assertEqual(settled(self.work, Tree(), {}), {})

    def test_ways(self):
        books = {"a": Book([run(read("s", "1"), folder("b", None)), run(read("s", "2"), read("b/x", "1"), read("t", "1"))]),
                 "b": Book([run(read("t", None), made=[("x", "1")])])}
        tree = Tree({"s": "2", "t": "3"})
        told = standing(self.work, tree, books)
        self.assertEqual(told["a"], ("waits", "b", [read("s", "2")]))
        self.assertEqual(told["b"], ("open", [read("t", "3")]))
        told = standing(self.work, Tree({"s": "2"}), books)
        self.assertEqual(told["a"], ("open", [read("s", "2"), read("b/x", "1"), read("t", None)]))
        self.assertEqual(standing(self.work, Tree({"s": "1"}), books)["a"], ("open", [read("s", "1"), folder("b", ("x",))]))
        self.assertEqual(standing(self.work, Tree({"s": "3"}), books)["a"], ("open", [read("s", "3")]))

    def test_a_step_settled_by_two(self):
        # A run that looks into two folders is not settled by one of them.
        books = {"a": Book([run(folder("b", None), folder("c", None))]), "b": Book([run()])}
        self.assertEqual(list(settled(self.work, Tree(), books)), ["b"])
        self.assertEqual(standing(self.work, Tree(), books)["a"], ("waits", "c", [folder("b", None)]))
        books["c"] = Book([run(made=[("x", "")])])
        self.assertEqual(list(settled(self.work, Tree(), books)), ["c", "b"])
        books["c"] = Book([run()])
        self.assertEqual(list(settled(self.work, Tree(), books)), ["c", "b", "a"])

    def test_two_works_along_a_chain(self):
        books = {"d": Book([run(folder("c/u", None)), run(folder("c/u", ("x0", "x1/")))]),
                 "c": Book([run(read("b/y", None)), run(read("b/y", "x0")), run(read("b/y", "x1"))]),
                 "b": Book([run(folder("a", ("x0",)))])}
        one, other = two_works(self.work, Tree(), books, name="d")
        self.assertNotEqual(*[build(self.work, steps, Tree(), ["d"]).runs["d"].outcome for steps in (one, other)])
        self.assertEqual(forced(self.work, Tree(), books, ["d"]), ["a"])

    def test_cut_off(self):
        # What looks into the folder of a step that makes what it made before is found, and not run.
        work = Work(["app", "lib"])
        lib = Step(ask("s", "read", [], ("end", "", [("x", "1")])))
        app = Step(ask("lib/x", "read", [("1", ("end", "good", []))]))
        known = build(work, {"app": app, "lib": lib}, Tree({"s": "1"}), ["app"]).runs
        books = {name: Book([known[name]]) for name in known}
        told = rebuilt(work=work, steps={"app": app, "lib": lib}, sources=Tree({"s": "2"}), books=books, wanted=["app"])
        self.assertEqual((told.ran, list(told.books), len(told.books["lib"])), (["lib"], ["app", "lib"], 2))
        self.assertEqual((told.build.runs["app"], len(told.books["app"])), (known["app"], 1))
        self.assertEqual(rebuilt(work, {"app": app, "lib": lib}, Tree({"s": "2"}), told.books, ["app"]).ran, [])
        self.assertEqual(rebuilt(work, {"app": app, "lib": lib}, Tree({"s": "2"}), {}, ["app"]).ran, ["app", "lib"])

    def test_steps_that_are_begun_and_wait(self):
        work = Work(["b", "a"])
        steps = {"a": Step(ask("s", "read", [], ask("b/x"))), "b": Step(ask("a/x"))}
        told = rebuilt(work, steps, Tree(), {}, ["a"])
        self.assertEqual((told.ran, told.books, told.build.ring()), (["b", "a"], {}, ["b", "a"]))

    def test_the_chooser_is_run(self):
        work = Work(["app", "lock"])
        steps = {"app": Step(ask("lock/app", "read", [("1", ("end", "old", []))]))}
        sources = Tree({"wish": "want app all\n", "index/app/1": ""})
        told = rebuilt(work, steps, sources, {}, ["app"])
        self.assertEqual((told.ran, told.build.runs["lock"]), (["app", "lock"], chosen(sources)))
        more = Tree({"wish": "want app 1\n", "index/app/1": ""})
        told = rebuilt(work, steps, more, told.books, ["app"])
        self.assertEqual((told.ran, len(told.books["lock"]), told.build.runs["app"].outcome), (["lock"], 2, "old"))
        # To what notes settle the chooser is a step as any other one.
        self.assertEqual(standing(work, more, {})["lock"], ("open", []))
        other = {"lock": Book([run(read("wish", None), end="right")])}
        self.assertEqual(raised(OtherStep, lambda: rebuilt(work, steps, more, other, [])).name, "lock")
        self.assertEqual(rebuilt(work, {**steps, "lock": Step(ask("wish", "read", [], ("end", "right", [])))}, more, other, []).ran,
                         [])


class AgainTest(unittest.TestCase):
    def setUp(self):
        self.work = Work(["b", "a", "c"])

    def why(self, runs):
        return raised(NotTogether, lambda: again_needed(self.work, runs, Tree())).why

    def test_together_in_no_sources(self):
        runs = {"a": run(read("s", "1"), read("b/x", "1")), "b": run(read("s", "2"), folder("c", None)),
                "c": run(folder("b", None))}
        self.assertEqual(self.why({"a": runs["a"], "b": runs["b"]}), ("lacks", "b", 1))
        self.assertEqual(self.why(runs), ("untrue", "a", 1))
        runs["a"] = run(read("s", "1"), read("b/x", None))
        self.assertEqual(self.why(runs), ("apart", "b", 0, "a", 0))
        runs["b"] = run(read("s", "1"), folder("c", None))
        self.assertEqual((self.why(runs)[0], sorted(self.why(runs)[1])), ("ring", ["b", "c"]))
        runs["b"] = run(read("s", "1"))
        self.assertEqual(again_needed(work=self.work, runs=runs, later=Tree()), {"b": "run", "a": "run", "c": "open"})

    def test_reads_of_just_a_name(self):
        self.assertEqual(self.why({"a": run(read("s", "1"), read("c", "x"))}), ("untrue", "a", 1))
        self.assertEqual(again_needed(self.work, {"a": run(read("c", None))}, Tree()), {"a": "left"})

    def test_first_of_the_pairs_that_bar(self):
        runs = {"a": run(read("t", "1"), read("s/x", "1")), "b": run(folder("t", None), folder("s", None)),
                "c": run(read("t", "2"))}
        self.assertEqual(self.why(runs), ("apart", "b", 1, "a", 1))
        self.assertIsNone(together(self.work, Tree({"t": "1"}), {"b": run(folder("s", None))}))

    def test_runs_beside_runs_that_stay(self):
        runs = {"a": run(read("b/x", "1")), "b": run(read("s", "1"), made=[("x", "1")]), "c": run()}
        self.assertEqual(again_needed(self.work, runs, Tree({"s": "1"})), {"b": "left", "a": "left", "c": "left"})
        self.assertEqual(again_needed(self.work, runs, Tree()), {"b": "run", "a": "open", "c": "left"})
        self.assertEqual(again_needed(self.work, {}, Tree()), {})


class WrongInputsTest(unittest.TestCase):
    def setUp(self):
        self.work = Work(["b", "a"])
        self.steps = {"a": Step(ask("s")), "b": Step(END)}
        self.own = run(folder("a", None))

    def calls(self, sources, told):
        books = {name: Book([one]) if isinstance(one, Run) else one for name, one in told.items()}
        return [lambda: settled(self.work, sources, books), lambda: standing(self.work, sources, books),
                lambda: two_works(self.work, sources, books, "z"), lambda: forced(self.work, sources, books, ["z"]),
                lambda: rebuilt(self.work, {"z": 0}, sources, books, ["z"])]

    def test_errors_ahead_of_all_else(self):
        for call in [*self.calls(Tree({"b/x": ""}), {"z": 0}), lambda: again_needed(self.work, {"z": 0}, Tree({"b/x": ""}))]:
            self.assertEqual(raised(BadSources, call).path, "b/x")
        for thing in [None, "c", 0, ("a",)]:
            runs = {"a": self.own, thing: self.own, "z": self.own}
            for call in [*self.calls(Tree(), runs), lambda: again_needed(self.work, runs, Tree())]:
                self.assertIs(raised(BadName, call).name, thing)
        runs = {"a": self.own, "b": run(read("b/x", "1"))}
        for call in [*self.calls(Tree(), runs), lambda: again_needed(self.work, runs, Tree())]:
            self.assertEqual(raised(OwnFolder, call).name, "b")

    def test_errors_of_rebuilt(self):
        books = {"a": Book([run(read("s", "1"), end="unlike")]), "b": Book([run(read("t", None))])}
        calls = [(BadName, "z", {"z": 0, "a": Step(ask("a/x"))}, ["z"]), (OwnFolder, "a", {"a": Step(ask("a/x"))}, ["z"]),
                 (BadName, "b", {"a": self.steps["a"]}, ["y"]), (BadName, "y", self.steps, ["y", "x"]),
                 (OtherStep, "b", self.steps, ["a"])]
        for error, name, steps, wanted in calls:
            self.assertEqual(raised(error, lambda: rebuilt(self.work, steps, Tree(), books, wanted)).name, name)
        del books["b"]
        self.assertEqual(raised(OtherStep, lambda: rebuilt(self.work, self.steps, Tree(), books, [])).name, "a")

    def test_names_by_themselves_and_wanted(self):
        for thing in odd_things() + ["c"]:
            self.assertIs(raised(BadName, lambda: two_works(self.work, Tree(), {}, thing)).name, thing)
            self.assertIs(raised(BadName, lambda: forced(self.work, Tree(), {}, ["a", thing, "y"])).name, thing)
            error = raised(BadName, lambda: rebuilt(self.work, self.steps, Tree(), {}, ["a", thing, "y"]))
            self.assertIs(error.name, thing)

    def test_what_is_passed_stays(self):
        books = {"b": Book()}
        told = rebuilt(self.work, self.steps, Tree(), books, ["a", "b"])
        self.assertEqual((books, len(books["b"]), list(told.books)), ({"b": Book()}, 0, ["b", "a"]))


if __name__ == "__main__":
    unittest.main()
