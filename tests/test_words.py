"""What is left in other sources, the chooser being known, and quiet choices (9.4, 9.5)."""

import itertools
import random
import unittest

from noteshold.books import Book, step_of
from noteshold.builds import build
from noteshold.choices import choices, first
from noteshold.choosing import chosen
from noteshold.errors import BadChange, BadChoice, BadName, BadSources, NotChooser, NotTogether, OwnFolder
from noteshold.index import Index, Row, index_of, wish_read, wish_text
from noteshold.roads import roads
from noteshold.steps import Run, Step
from noteshold.trees import Tree
from noteshold.versions import Range
from noteshold.words import not_left, quiet, words, words_by
from noteshold.works import Work
from tests.houses import needs_there, some_sources, some_work
from tests.packages import loose_packages
from tests.worlds import odd_things, raised, read

EVERY = Range([(1, 20)])
WORK = Work(["app", "lock", "lib"])
ROWS = {("a", 1): Row(), ("a", 2): Row(needs=[(None, [("b", EVERY)], [])]), ("b", 1): Row()}
SOURCES = Tree({"wish": wish_text([("a", EVERY, [])]), "src": "0", **Index(ROWS).files()})
LIB = Step(("ask", ("read", "src"), [("0", ("end", "ok", [("x", "1")]))], ("end", "no", [])))
APP = Step(("ask", ("read", "lock/a"), [], ("ask", ("read", "lib/x"), [], ("end", "good", []))))
RUNS = build(WORK, {"app": APP, "lib": LIB}, SOURCES, ["app"]).runs


def some_runs(seed):
    """A work, runs that are together in sources, the chooser's perhaps among them, and other sources."""
    chance, work, steps, sources = some_work(seed, lock=True)
    made = build(work, steps, sources, work.names())
    now = chance.choice([sources, some_sources(chance), some_sources(chance)])
    if chance.random() < 0.5:
        files = sources.files()
        for path in chance.sample(list(files), min(len(files), 2)):
            del files[path]
        now = Tree(files)
    return chance, work, sources, made.runs, now


def other_steps(work, runs, name):
    """Steps that have a run, and end elsewhere as it does but for the outcome, or make other files there."""
    run = runs[name]
    files = [run.made, [], [("fresh", "")], [(path, text + "!") for path, text in run.made]]
    for other in runs.values():
        for look, _ in other.sights:
            if work.need(look) == name and "/" in look[1]:
                files += [[(look[1].partition("/")[2] + end, "!")] for end in ("", "/fresh")]
    return [step_of(Book([run]), run.outcome + "x", made) for k, made in enumerate(files) if made not in files[:k]]


def words_there(work, runs, now, lock):
    """The words by what steps of many kinds that have the runs do."""
    names = [name for name in runs if name != "lock"]
    found = {name: [] for name in names}
    for told in itertools.product(*[other_steps(work, runs, name) for name in names]):
        steps = dict(zip(names, told))
        if lock is not None:
            steps["lock"] = lock
        rest = {name: step_of(Book(), "") for name in work.names() if name not in steps and name != "lock"}
        ended = build(work, {**steps, **rest}, now, list(runs)).runs
        for name in names:
            found[name].append(ended.get(name) == runs[name])
    return {name: "left" if all(told) else "open" if any(told) else "run" for name, told in found.items()}


class WordsTest(unittest.TestCase):
    def test_plain(self):
        self.assertEqual(list(RUNS), ["app", "lock", "lib"])
        self.assertEqual(words(WORK, SOURCES, RUNS, SOURCES), {"app": "left", "lock": "left", "lib": "left"})
        # The chooser makes other files, of which nobody has seen any that is otherwise.
        now = SOURCES.after([("put", "index/b/2", Row().text())])
        self.assertEqual(words(WORK, SOURCES, RUNS, now), {"app": "left", "lock": "run", "lib": "left"})
        now = SOURCES.after([("drop", "index/a/2")])
        self.assertEqual(words(WORK, SOURCES, RUNS, now), {"app": "run", "lock": "run", "lib": "left"})
        now = SOURCES.after([("put", "src", "1")])
        self.assertEqual(words(work=WORK, sources=SOURCES, runs=RUNS, now=now),
                         {"app": "open", "lock": "left", "lib": "run"})
        self.assertEqual(words(WORK, SOURCES, {}, now), {})

    def test_files_that_nobody_chose_count_as_what_the_chooser_makes(self):
        # lock ends otherwise, and makes what it made: nothing.
        one = SOURCES.after([("put", "wish", "odd")])
        two = SOURCES.after([("drop", "index/a/1"), ("drop", "index/a/2")])
        runs = {"lock": chosen(one)}
        self.assertEqual([chosen(one).outcome, chosen(two).outcome], ["odd", "none"])
        self.assertEqual(words(WORK, one, runs, two), {"lock": "left"})

    def test_small_worlds(self):
        seen = {}
        for seed in range(150):
            chance, work, sources, runs, now = some_runs(seed)
            if len(runs) > 4:
                continue
            told = words(work, sources, runs, now)
            self.assertEqual(list(told), list(runs))
            there = words_there(work, runs, now, None)
            self.assertEqual({name: word for name, word in told.items() if name != "lock"}, there, seed)
            if "lock" in runs:
                self.assertEqual(told["lock"], "left" if chosen(now).made == runs["lock"].made else "run")
            for name, word in there.items():
                seen[word] = seen.get(word, 0) + 1
            self.facts(work, sources, runs, now, told)
        self.assertGreater(min(seen[word] for word in ("left", "run", "open")), 8)

    def facts(self, work, sources, runs, now, told):
        left = {name: dict(runs[name].made) for name in runs if told[name] == "left"}
        if "lock" in runs:
            left["lock"] = dict(chosen(now).made)
        tree = work.tree(now, left)
        for name in runs:
            if name != "lock":
                sights = [sight for sight in runs[name].sights if work.need(sight[0]) in [None, *left]]
                self.assertEqual(told[name] == "run", any(tree.answer(look) != answer for look, answer in sights))
            for road in roads(work, sources, runs, name):
                if all(now.answer(look) == answer for look, answer in road):
                    self.assertEqual({told[one] for one in needs_there(work, runs, name)}, {"left"})

    def test_not_left(self):
        self.assertEqual(not_left(WORK, SOURCES, RUNS, ("drop", "index/a/2")), ["app", "lock"])
        self.assertEqual(not_left(work=WORK, sources=SOURCES, runs=RUNS, change=["put", "src", "1"]), ["app", "lib"])
        self.assertEqual(not_left(WORK, SOURCES, RUNS, ("put", "new", "")), [])
        for seed in range(40):
            _, work, sources, runs, now = some_runs(seed)
            for path in sources.files():
                told = words(work, sources, runs, sources.after([("drop", path)]))
                self.assertEqual(not_left(work, sources, runs, ("drop", path)), [name for name in told if told[name] != "left"])

    def test_bad_change(self):
        for thing in odd_things() + [("drop", "none"), ("put", "src/a", ""), ("put", "A", "")]:
            self.assertEqual(raised(BadChange, lambda: not_left(WORK, SOURCES, RUNS, thing)).index, 0)
        self.assertEqual(raised(BadSources, lambda: not_left(WORK, SOURCES, RUNS, ("put", "lib/x", ""))).path, "lib/x")


class QuietTest(unittest.TestCase):
    def test_plain(self):
        now = SOURCES.after([("put", "index/a/3", Row().text())])
        self.assertEqual(words(WORK, SOURCES, RUNS, now)["app"], "run")
        told = quiet(WORK, SOURCES, RUNS, now)
        self.assertEqual(told, ({"a": 2, "b": 1}, {"app": "left", "lock": "left", "lib": "left"}))
        self.assertEqual(words_by(WORK, SOURCES, RUNS, now, {"a": 3}), {"app": "run", "lock": "run", "lib": "left"})
        self.assertEqual(words_by(WORK, SOURCES, RUNS, now, {"b": 1, "a": 2}), told[1])

    def test_none(self):
        for now in [SOURCES.after([("drop", "wish")]), SOURCES.after([("put", "wish", "?")]),
                    SOURCES.after([("drop", "index/a/1"), ("drop", "index/a/2")])]:
            self.assertIsNone(quiet(WORK, SOURCES, RUNS, now))

    def test_of_equally_quiet_ones_the_first(self):
        work = Work(["lock"])
        now = SOURCES.after([("put", "wish", "")])
        self.assertEqual(quiet(work, now, {"lock": chosen(now)}, SOURCES), ({"a": 2, "b": 1}, {"lock": "run"}))
        self.assertEqual(quiet(work, now, {}, SOURCES), ({"a": 2, "b": 1}, {}))

    def test_fewest_news_need_not_be_quiet(self):
        # A step looks at b alone: the choice that keeps a has b otherwise.
        rows = {("a", 2): Row(needs=[(None, [("b", Range([(1, 1)]))], [])]), ("b", 1): Row(), ("b", 2): Row(),
                ("a", 1): Row(needs=[(None, [("b", Range([(2, 2)]))], [])]), ("c", 1): Row()}
        before = Index({("a", 2): Row(needs=[(None, [("b", EVERY)], [])]), ("b", 2): Row()})
        wish = wish_text([("a", EVERY, [])])
        sources, now = [Tree({"wish": wish, **index.files()}) for index in (before, Index(rows))]
        app = Step(("ask", ("read", "lock/b"), [], ("end", "", [])))
        runs = build(Work(["lock", "app"]), {"app": app}, sources, ["app"]).runs
        told = quiet(Work(["lock", "app"]), sources, runs, now)
        self.assertEqual(told, ({"a": 1, "b": 2}, {"lock": "run", "app": "left"}))

    def test_small_worlds(self):
        several = 0
        for seed in range(120):
            _, work, sources, runs, now = some_runs(seed)
            if len(runs) > 4:
                continue
            if seed % 3:
                index, wishes = loose_packages(seed, 3, 3)
                files = {path: text for path, text in now.files().items() if path.startswith("src")}
                now = Tree({**files, "wish": wish_text(wishes), **index.files()})
            try:
                wishes = wish_read(now.files().get("wish", "?"))
            except ValueError:
                self.assertIsNone(quiet(work, sources, runs, now))
                continue
            lean = choices(index_of(now), wishes)
            best = None
            for choice in lean:
                told = words_by(work, sources, runs, now, choice)
                made = [(package, str(version)) for package, version in choice.items()]
                there = words_there(work, runs, now, Step(("end", "", made)) if "lock" in runs else None)
                self.assertEqual({name: word for name, word in told.items() if name != "lock"}, there)
                if "lock" in runs:
                    self.assertEqual(told["lock"], "left" if dict(made) == dict(runs["lock"].made) else "run")
                loud = [list(there.values()).count(word) for word in ("run", "open")]
                if best is None or loud < best[0]:
                    best = (loud, choice, told)
                if choice == first(index_of(now), wishes):
                    self.assertEqual(told, words(work, sources, runs, now))
            several += len(lean) > 1
            self.assertEqual(quiet(work, sources, runs, now), None if best is None else best[1:])
        self.assertGreater(several, 10)

    def test_bad_choice(self):
        for thing in odd_things() + [{"a": 1, "b": 1}, {"a": 3}, {"b": 1}, {"a": 2}, {"a": 2, "b": True}]:
            self.assertIs(raised(BadChoice, lambda: words_by(WORK, SOURCES, RUNS, SOURCES, thing)).choice, thing)
        for now in [SOURCES.after([("drop", "wish")]), SOURCES.after([("put", "wish", "?")])]:
            raised(BadChoice, lambda: words_by(WORK, SOURCES, RUNS, now, {"a": 1}))


class ErrorsTest(unittest.TestCase):
    def calls(self, sources, runs, now):
        return [lambda: words(WORK, sources, runs, now), lambda: words_by(WORK, sources, runs, now, 7),
                lambda: quiet(WORK, sources, runs, now)]

    def test_in_the_order_of_the_text(self):
        bad = Tree({"lib/x": "", "app/y": ""})
        own = Run([read("lib/x", "1")], "")
        cases = [(BadSources, "path", "app/y", bad, {"none": 7}, bad), (BadName, "name", "none", SOURCES, {"none": own}, bad),
                 (OwnFolder, "name", "lib", SOURCES, {"lib": own}, bad),
                 (NotTogether, "why", ("lacks", "app", 0), SOURCES, {"app": RUNS["app"]}, bad),
                 (NotTogether, "why", ("untrue", "lib", 0), Tree(), {"lib": RUNS["lib"]}, bad),
                 (BadSources, "path", "app/y", SOURCES, RUNS, bad)]
        for error, word, told, sources, runs, now in cases:
            for call in self.calls(sources, runs, now):
                self.assertEqual(getattr(raised(error, call), word), told)
            if error is not BadSources or sources is bad:
                self.assertEqual(getattr(raised(error, lambda: not_left(WORK, sources, runs, 7)), word), told)
        odd = {"lock": Run([read("wish", SOURCES.files()["wish"])], "odd")}
        for call in [*self.calls(SOURCES, odd, bad), lambda: not_left(WORK, SOURCES, odd, 7)]:
            raised(NotChooser, call)


if __name__ == "__main__":
    unittest.main()
