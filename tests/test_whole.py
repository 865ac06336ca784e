"""What goes over the whole program: arguments, answers that are new, and the facts from file to file (2.1 to 2.3)."""

import importlib
import inspect
import random
import unittest

from noteshold.books import Book, step_of
from noteshold.builds import build, ends_of, together
from noteshold.caches import Cache, out_of
from noteshold.errors import BadDeed
from noteshold.forced import Rebuilt, again_needed, rebuilt, settled
from noteshold.hands import Woven, least_holds, may_begin, weave
from noteshold.histories import Fault, judged, least_rules
from noteshold.roads import is_road, roads
from noteshold.rules import SORTS, Rule
from noteshold.stage_texts import read_deeds, read_stage, write_deeds, write_stage
from noteshold.stages import Stage, moments, table
from noteshold.step_texts import read_step, write_step
from noteshold.texts import read_run, read_runs, read_tree, write_run, write_runs, write_tree
from noteshold.times import chain_time, least_time
from noteshold.trees import Tree
from noteshold.words import not_left, quiet, words, words_by
from noteshold.works import Work
from noteshold.workshop import Workshop
from tests import branches, calls
from tests.houses import some_sources, some_step, some_work
from tests.test_interface import CLASSES, FUNCTIONS, MADE, calls_in

ALL = Rule([(sort, None) for sort in SORTS])


def told(thing):
    """A thing with all that objects without a comparison of their own have, so that it can be compared."""
    if isinstance(thing, (list, tuple)):
        return type(thing)(told(part) for part in thing)
    if isinstance(thing, dict):
        return [(key, told(value)) for key, value in thing.items()]
    if isinstance(thing, Rebuilt):
        return ["rebuilt", thing.ran, told(thing.books), thing.build]
    if isinstance(thing, Fault):
        return ["fault", thing.history, told(thing.steps), thing.chain]
    if isinstance(thing, Woven):
        return ["woven", told(thing.done), told(thing.doing), thing.tree()]
    if isinstance(thing, Workshop):
        return ["shop", calls.all_of_a_shop(thing)]
    return thing


def turned(thing, is_row):
    """The thing with all lists and tuples as tuples or as lists, also within others."""
    if isinstance(thing, (list, tuple)):
        parts = [turned(part, is_row) for part in thing]
        return tuple(parts) if is_row else parts
    if isinstance(thing, dict):
        return {key: turned(value, is_row) for key, value in thing.items()}
    return thing


def spoilt(thing):
    """Empties all lists and dicts in a thing."""
    if isinstance(thing, (list, tuple, dict)):
        for part in list(thing.values()) if isinstance(thing, dict) else list(thing):
            spoilt(part)
        if not isinstance(thing, tuple):
            thing.clear()


class CallsTest(unittest.TestCase):
    def test_they_are_all(self):
        names = {getattr(call, "__qualname__", "") for call, _ in calls.all_calls()}
        for text in FUNCTIONS.values():
            self.assertEqual([name for name, _ in calls_in(text) if name not in names], [])
        kinds = {(kind.split("(")[0]): text for (_, kind), text in CLASSES.items()}
        kinds.update({name: text for (_, name), (text, _) in MADE.items()})
        for kind, text in kinds.items():
            methods = [name for name, _ in calls_in(text) if not name.startswith("__") and name not in ("do", "undo", "again")]
            self.assertEqual([name for name in methods if f"{kind}.{name}" not in names], [], kind)
        self.assertEqual([kind for (_, kind) in CLASSES if kind.split("(")[0] not in names], [])

    def test_by_place_and_by_name(self):
        for call, args in calls.all_calls():
            self.assertEqual(list(args), [name for name in inspect.signature(call).parameters][:len(args)], call)
            self.assertEqual(told(call(*args.values())), told(call(**args)), call)
            mixed = dict(list(args.items())[1:])
            self.assertEqual(told(call(*list(args.values())[:1], **mixed)), told(call(**args)), call)

    def test_lists_and_tuples_mean_the_same(self):
        for call, args in calls.all_calls():
            plain = told(call(**args))
            for is_row in (True, False):
                self.assertEqual(told(call(**{name: turned(thing, is_row) for name, thing in args.items()})), plain, call)

    def test_what_is_passed_stays_and_what_is_returned_is_new(self):
        for place in range(len(calls.all_calls())):
            call, args = calls.all_calls()[place]
            ahead = told(args)
            first = call(**args)
            plain = told(first)
            self.assertEqual(told(args), ahead, call)
            spoilt(first)
            self.assertEqual(told(args), ahead, call)
            self.assertEqual(told(call(**args)), plain, call)

    def test_later_changes_of_what_is_passed_have_no_effect(self):
        for place in range(len(calls.all_calls())):
            call, args = calls.all_calls()[place]
            own = {name: turned(thing, False) for name, thing in args.items()}
            if not isinstance(call, type):
                continue
            made, same = call(**own), call(**args)
            for thing in own.values():
                spoilt(thing)
            self.assertEqual(told(made), told(same), call)

    def test_equal_objects_and_others(self):
        objects = [call(**args) for call, args in calls.all_calls() if isinstance(call, type)]
        again = [call(**args) for call, args in calls.all_calls() if isinstance(call, type)]
        for k, one in enumerate(objects):
            for j, other in enumerate(again):
                if "__eq__" in vars(type(one)):
                    self.assertEqual(one == other, k == j, (one, other))
                    self.assertEqual(one != other, k != j)
            for other in (None, 0, "", [], (), {}, "a"):
                self.assertFalse(one == other)
                self.assertTrue(one != other)

    def test_every_file_is_imported_by_its_name(self):
        for file in FUNCTIONS:
            self.assertTrue(importlib.import_module("noteshold." + file))


def some_house(seed):
    """A stage with a house, deeds, manners and steps that keep to them, each behind those on which it hangs."""
    chance = random.Random(seed)
    while True:
        stage, deeds, manners = branches.some_stage(chance), branches.some_deeds(chance), branches.some_manners(chance)
        if not branches.has_barred(stage, manners):
            order = [name for name in ("p", "q", "r") if name in manners]
            steps = {name: branches.some_step_of_manner(chance, manners, name) for name in order}
            return chance, stage, deeds, manners, steps


def rest_in(tree, names):
    """The files of a tree but those of these steps."""
    return Tree({path: text for path, text in tree.files().items() if path.split("/")[0] not in names})


class BuildTest(unittest.TestCase):
    def by_hands(self, chance, work, steps, sources):
        """What came of a weaving by chance, each step that is to be redone being begun anew until all is right."""
        deeds, hands = [], {}
        stood = {name: {"x": "9"} for name in work.names() if chance.random() < 0.5}
        for _ in range(300):
            woven = weave(work, steps, sources, stood, deeds)
            if woven.is_right(work.names()) and not woven.doing:
                return woven
            hands = woven.doing
            free = [name for name in woven.redo(work.names()) if name not in [owner for owner, _ in hands.values()]]
            hand = chance.choice("abc")
            if hand in hands:
                deeds.append(("on", hand))
            elif free:
                deeds.append(("begin", hand, chance.choice(free)))
        raise AssertionError("it is never right")

    def test_whichever_way_it_comes_about(self):
        """The clean build, forced runs, hands, a workshop and a cache come to the same, also by what was read."""
        for seed in range(60):
            chance, stage, _, _, steps = some_house(seed)
            names = list(steps)
            work, sources = Work(names), stage.sources("one")
            clean = build(work, steps, sources, names)
            self.assertEqual([clean.waits, list(clean.runs)], [{}, names])
            self.assertEqual(rebuilt(work, steps, sources, {}, names).build, clean)
            woven = self.by_hands(chance, work, steps, sources)
            self.assertEqual(woven.done, {name: (run.sights, run.outcome, run.made) for name, run in clean.runs.items()})
            self.assertEqual(woven.tree(), clean.tree())
            shop = Workshop(stage, steps, ALL)
            shop.do(("build", "one"))
            self.assertEqual([shop.runs_of("one"), shop.tree("one"), shop.is_clean("one")], [clean.runs, clean.tree(), True])
            cache = shop.cache("c")
            self.assertEqual({name: cache.entries()[k][2] for name, k in out_of(work, sources, cache).items()}, clean.runs)
            self.assertEqual(rest_in(clean.tree(), names), sources)
            self.facts_of_runs(work, sources, clean.runs)
            again = {name: read_step(write_step(steps[name])) for name in names}
            self.assertEqual(build(work, again, read_tree(write_tree(sources)), names), clean)
            other = Workshop(read_stage(write_stage(stage)), again, ALL)
            self.assertEqual(other.do(read_deeds(write_deeds([("build", "one")]))[0]),
                             [(name, "ran", clean.runs[name].outcome) for name in names])
            self.assertEqual(other.runs_of("one"), clean.runs)

    def facts_of_runs(self, work, sources, runs):
        told_runs = read_runs(write_runs(runs))
        self.assertEqual(told_runs, runs)
        self.assertEqual({name: read_run(write_run(run)) for name, run in runs.items()}, runs)
        self.assertIsNone(together(work, sources, told_runs))
        books = {name: Book([run]) for name, run in told_runs.items()}
        self.assertEqual(settled(work, sources, books), runs)
        self.assertEqual(ends_of(work, sources, books), [(0,) * len(runs)])
        self.assertEqual(set(again_needed(work, told_runs, sources).values()) | {"left"}, {"left"})
        self.assertEqual(words(work, sources, told_runs, sources), {name: "left" for name in runs})
        lengths = {name: 1 + place for place, name in enumerate(work.names())}
        self.assertEqual(least_time(work, told_runs, lengths, 3)[0], chain_time(work, told_runs, lengths)[0])
        stood = {name: dict(run.made) for name, run in runs.items()}
        for name, run in runs.items():
            self.assertEqual(may_begin(work, sources, books, stood, name), "sure")
            for steps in [{other: step_of(books[other], "?") for other in runs}]:
                self.assertEqual(build(work, steps, sources, [name]).runs[name], run)
                self.assertEqual(least_holds(work, steps, sources, stood, [name]), [])

    def test_a_chooser_in_the_work(self):
        for seed in range(60):
            chance, work, steps, sources = some_work(seed, lock=True)
            clean = build(work, steps, sources, work.names())
            if clean.waits:
                continue
            self.assertEqual(rebuilt(work, steps, sources, {}, work.names()).build, clean)
            woven = self.by_hands(chance, work, steps, sources)
            self.assertEqual(woven.done, {name: (run.sights, run.outcome, run.made) for name, run in clean.runs.items()})
            entries = [("home", name, run) for name, run in clean.runs.items()]
            self.assertEqual(list(out_of(work, sources, Cache(ALL, entries))), work.names())
            self.assertEqual(read_runs(write_runs(clean.runs)), clean.runs)


class LiveTest(unittest.TestCase):
    def test_words_live(self):
        """What words tell of a change is what a workshop then does: left is left, run is run anew."""
        seen = {}
        for seed in range(120):
            chance, stage, deeds, manners, steps = some_house(seed)
            work = Work(list(steps))
            shop = Workshop(stage, steps, ALL)
            shop.do(("build", "one"))
            runs, before = shop.runs_of("one"), stage.sources("one")
            for _ in range(3):
                try:
                    shop.do(chance.choice(deeds))
                except BadDeed:
                    pass
            now = shop.stage().sources("one")
            lines = {name: word for name, word, _ in shop.do(("build", "one"))}
            told_words = words(work, before, runs, now)
            self.assertEqual(told_words, again_needed(work, runs, now))
            for name, word in told_words.items():
                seen[word] = seen.get(word, 0) + 1
                if word == "left":
                    self.assertEqual([shop.runs_of("one")[name], lines[name]], [runs[name], "left"])
                elif word == "run":
                    self.assertNotEqual(shop.runs_of("one")[name], runs[name])
                    self.assertEqual(lines[name], "ran")
            self.roads_live(work, before, runs, now, shop.runs_of("one"))
        self.assertGreater(min(seen[word] for word in ("left", "run", "open")), 5)

    def roads_live(self, work, before, runs, now, later):
        for name in runs:
            for road in roads(work, before, runs, name):
                self.assertTrue(is_road(work, before, runs, name, road))
                if all(now.answer(look) == answer for look, answer in road):
                    self.assertTrue(later[name].ends_as(runs[name]))

    def test_words_and_roads_live_with_a_chooser(self):
        roads_true = lefts = 0
        for seed in range(150):
            chance, work, steps, sources = some_work(seed, lock=True)
            runs = build(work, steps, sources, work.names()).runs
            now = some_sources(chance) if chance.random() < 0.3 else self.changed(chance, sources)
            later = build(work, steps, now, list(runs)).runs
            told_words = words(work, sources, runs, now)
            for name, word in told_words.items():
                if name == "lock":
                    self.assertEqual(word == "left", later[name].made == runs[name].made)
                elif word == "left":
                    lefts += 1
                    self.assertEqual(later[name], runs[name])
                elif word == "run":
                    self.assertNotEqual(later.get(name), runs[name])
                for road in roads(work, sources, runs, name):
                    if all(now.answer(look) == answer for look, answer in road):
                        roads_true += 1
                        self.assertEqual(word, "left")
                        self.assertTrue(later[name].ends_as(runs[name]))
            self.quiet_lives(work, steps, sources, runs, now)
        self.assertGreater(min(roads_true, lefts), 50)

    def changed(self, chance, sources):
        files = sources.files()
        if not files:
            return sources
        path = chance.choice(list(files))
        change = ("drop", path) if chance.random() < 0.5 else ("put", path, chance.choice(["1", "2", "", "no row"]))
        return sources.after([change])

    def quiet_lives(self, work, steps, sources, runs, now):
        """With a lock of the quiet choice's files each step that it leaves makes what it made."""
        found = quiet(work, sources, runs, now)
        if found is None or "lock" not in runs:
            return
        choice, told_words = found
        self.assertEqual(words_by(work, sources, runs, now, choice), told_words)
        lock = step_of(Book(), "", [(package, str(version)) for package, version in choice.items()])
        later = build(work, {**steps, "lock": lock}, now, list(runs)).runs
        for name, word in told_words.items():
            if name != "lock" and word != "open":
                self.assertEqual(later.get(name) == runs[name], word == "left")

    def test_not_left_lives(self):
        for seed in range(60):
            chance, work, steps, sources = some_work(seed)
            runs = build(work, steps, sources, work.names()).runs
            files = sources.files()
            for path in chance.sample(list(files), min(3, len(files))):
                stays = not_left(work, sources, runs, ("drop", path))
                later = build(work, steps, sources.after([("drop", path)]), list(runs)).runs
                for name in runs:
                    if name not in stays:
                        self.assertEqual(later[name], runs[name])

    def test_faults_and_right_rules_live(self):
        """The history of a Fault, written and read, done with its steps, ends with a build that is not clean; with least
        rules each build behind told deeds is clean."""
        faults = lived = 0
        for seed in range(100):
            chance, stage, deeds, manners, steps = some_house(5000 + seed)
            kept = [("contents", "src"), ("lacking", None), ("names", None), ("nofolder", None), ("contents", None)]
            told_rules = least_rules(stage, deeds, manners, kept)
            for numbers in ((), (0,), (1, 2), (1, 2, 3, 4)):
                rule = Rule([kept[k] for k in numbers])
                fault = judged(read_stage(write_stage(stage)), read_deeds(write_deeds(deeds)), manners, rule)
                self.assertEqual(fault is None, any(set(part) <= set(numbers) for part in told_rules))
                if fault is not None:
                    faults += 1
                    shop = Workshop(stage, {name: read_step(write_step(step)) for name, step in fault.steps.items()}, rule)
                    for deed in read_deeds(write_deeds(fault.history)):
                        shop.do(deed)
                    self.assertFalse(shop.is_clean(fault.history[-1][1]))
                    self.assertEqual(moments(stage, fault.history)[-1][1], fault.history[-1][1])
            for numbers in told_rules[:2]:
                shop = Workshop(stage, steps, Rule([kept[k] for k in numbers]))
                for _ in range(12):
                    lived += 1
                    try:
                        shop.do(chance.choice([*deeds, ("build", "one"), ("build", "two"), ("lose", "c")]))
                    except BadDeed:
                        continue
                    self.assertTrue(shop.is_clean("one") and shop.is_clean("two"))
        self.assertGreater(min(faults, lived), 100)

    def test_the_stages_of_a_workshop_are_those_of_the_table(self):
        for seed in range(40):
            chance, stage, deeds, manners, steps = some_house(6000 + seed)
            told_stages = table(stage, deeds)
            shop = Workshop(stage, steps, ALL)
            for _ in range(10):
                try:
                    shop.do(chance.choice(deeds))
                except BadDeed:
                    continue
                self.assertIn(shop.stage(), told_stages)
                self.assertEqual(stage.after(shop.deeds()), shop.stage())


if __name__ == "__main__":
    unittest.main()
