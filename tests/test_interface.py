"""The interface: names, parameters and under which file each function and class is defined; the errors (2.2)."""

import importlib
import inspect
import re
import unittest

from noteshold import errors
from noteshold.builds import build
from noteshold.caches import Cache
from noteshold.forced import rebuilt
from noteshold.hands import weave
from noteshold.histories import judged
from noteshold.index import Row
from noteshold.rules import Rule
from noteshold.stages import Stage
from noteshold.steps import Run
from noteshold.trees import Tree
from noteshold.works import Work

ERRORS = """BadPath(path), Blocked(path), BadLook(look), BadChange(index), BadSight(index), Apart(first, second),
BadPattern(thing), BadStep(place), BadEnd(thing), NoRun(), BadIndex(thing), NotOne(first, second), Known(which),
BadName(name), BadSources(path), OwnFolder(name), Ringed(circle), OtherStep(name), NotTogether(why), BadKept(index),
BadSort(thing), BadEntry(index), BadAsk(index), BadRange(index), BadRow(kind), BadPlace(place), BadWish(index),
BadChoice(choice), BadNumber(number), BadText(line), BadThreat(threat), BadLock(lock), NotRight(choice), NotChooser(),
NotTrue(index), NoPackage(package), BadShelf(name), BadHouse(name), NoHouse(name), BadDeed(index), BadManner(name),
NoStep(name), BadHold(index), Waiting(who), BadLength(name), BadHands(hands), TooEarly(name, look), NoCache(name),
Nothing()"""

FUNCTIONS = {
    "trees": "changes_between(one, other), touched(one, other)",
    "sights": "is_sight(thing), sort_of(sight), untrue(sights, tree), bars(one, other), apart(sights), tree_of(sights), "
              "nearest(tree, sights), follows(sights, sight), least(sights), sure(sights, look)",
    "patterns": "matches(pattern, path), missed(patterns, pattern), shared(one, other)",
    "ends": "ends(step), makes(step, path), parting(one, other), alike(one, other), pruned(step), "
            "step_reasons(step, run), is_step_reason(step, run, numbers)",
    "books": "clash(one, other), one_reader(runs), ways_to_one(runs), step_of(book, outcome, made=()), "
             "two_steps(book, tree), moved_runs(book, one, other), stays(book, one, other)",
    "index": "index_of(tree), wish_text(wishes), wish_read(text)",
    "builds": "build(work, steps, sources, wanted), together(work, sources, runs), ends_of(work, sources, books)",
    "forced": "settled(work, sources, books), standing(work, sources, books), two_works(work, sources, books, name), "
              "forced(work, sources, books, wanted), rebuilt(work, steps, sources, books, wanted), "
              "again_needed(work, runs, later)",
    "rules": "loose(rule, run, facts=()), safe(rule, run, facts=()), stray(rule, run, facts=())",
    "caches": "out_of(work, sources, cache)",
    "choices": "is_right(index, wishes, choice), is_lean(index, wishes, choice), lit(index, wishes, choice), "
               "first(index, wishes), choices(index, wishes), how_many(index, wishes), "
               "number_of(index, wishes, choice), choice_at(index, wishes, number), spread(index, wishes)",
    "choosing": "chosen(tree)",
    "barring": "barring(index, wishes), is_barring(index, wishes, thing), blames(index, wishes), peaces(index, wishes)",
    "reasons": "cells(index, wishes), sights_of(tree, some), is_note(index, wishes, thing), reasons(index, wishes), "
               "threats(index, wishes), harm(index, wishes, threat)",
    "upgrades": "lock_of(tree), news(lock, choice), upgrade(index, wishes, lock), kept(index, wishes, lock), "
                "unkept(index, wishes, lock), is_upgrade_note(index, wishes, lock, thing), "
                "upgrade_reasons(index, wishes, lock), upgrade_threats(index, wishes, lock), "
                "steps(index, wishes, one, goal), closed(index, wishes, one, goal), "
                "is_closed(index, wishes, one, goal, thing)",
    "roads": "roads(work, sources, runs, name), is_road(work, sources, runs, name, sights), "
             "parted(work, sources, runs, name, sights)",
    "words": "words(work, sources, runs, now), not_left(work, sources, runs, change), "
             "words_by(work, sources, runs, now, choice), quiet(work, sources, runs, now)",
    "keys": "view(index, choice, package), is_key(index, wishes, package, packages), keys(index, wishes, package), "
            "twins(index, wishes, package, packages), view_runs(index, choice, package)",
    "stages": "moments(stage, history), keeps_to(manners, name, run), table(stage, deeds), is_table(stage, deeds, thing)",
    "histories": "judged(stage, deeds, manners, rule), least_rules(stage, deeds, manners, kept), "
                 "locked(stage, deeds, manners, patterns), least_locks(stage, deeds, manners, patterns)",
    "hands": "weave(work, steps, sources, stood, deeds), keeps(work, steps, sources, stood, deeds, holds), "
             "least_holds(work, steps, sources, stood, wanted), "
             "bad_weaving(work, steps, sources, stood, wanted, index), may_begin(work, sources, books, stood, name)",
    "times": "chain_time(work, runs, lengths), least_time(work, runs, lengths, hands), "
             "is_plan(work, runs, lengths, hands, thing)",
    "texts": "write_tree(tree), read_tree(text), write_run(run), read_run(text), write_runs(runs), read_runs(text)",
    "step_texts": "write_step(step), read_step(text)",
    "stage_texts": "write_stage(stage), read_stage(text), write_deeds(deeds), read_deeds(text)",
}

CLASSES = {
    ("trees", "Tree(files=None)"): "files(), answer(look), after(changes), part(path), firsts(), __or__(other), "
                                   "__eq__(other), __len__(), __contains__(x)",
    ("steps", "Step(tree)"): "tree(), looks(), run(tree), __eq__(other)",
    ("steps", "Run(sights, outcome, made=())"): "note(), holds(tree), ends_as(other), __len__(), __eq__(other)",
    ("books", "Book(runs=())"): "all_runs(), more(run), says(tree), way(tree), __iter__(), __len__(), __contains__(x), "
                                "__eq__(other)",
    ("works", "Work(names)"): "names(), need(look), tree(sources, made), __len__(), __contains__(x), __eq__(other)",
    ("versions", "Range(spans)"): "spans(), text(), __or__(other), __and__(other), __sub__(other), __invert__(), "
                                  "__len__(), __contains__(x), __eq__(other)",
    ("index", "Row(features=(), needs=(), clashes=())"): "text(), __eq__(other)",
    ("index", "Index(rows=None)"): "packages(), versions(package), put(place, row), without(place), files(), "
                                   "__getitem__(at), __len__(), __eq__(other)",
    ("rules", "Rule(kept)"): "has(sort, path), kept(), keeps(other), note(run), __or__(other), __and__(other), "
                             "__invert__(), __eq__(other)",
    ("caches", "Cache(rule, entries=())"): "entries(), more(entry), less(index), found(name, tree), strays(name, tree), "
                                           "answer(name, tree), poisoned(), clash(), answers_in(index), "
                                           "missed_in(index), never(), idle(), lean(), least(asks), shared(facts), "
                                           "foreign(facts), for_house(facts), __iter__(), __len__(), __eq__(other)",
    ("stages", "Stage(shelves, houses)"): "shelves(), houses(), sources(house), after(history), __eq__(other)",
    ("workshop", "Workshop(stage, steps, rule)"): "do(deed), stage(), cache(name), runs_of(house), tree(house), "
                                                  "is_clean(house), deeds(), undo(), again(), copy(), trial(work), "
                                                  "__len__()",
}

# The attributes that the interface lists for objects that callers make.
KEPT = {"Run": ["sights", "outcome", "made"], "Cache": ["rule"], "Row": ["features", "needs", "clashes"]}

# Classes of which the package alone makes objects: their methods, and the attributes that each object has.
MADE = {
    ("builds", "Build"): ("made_files(), tree(), order(), ring(), __eq__(other)", ["runs", "waits"]),
    ("forced", "Rebuilt"): ("", ["ran", "books", "build"]),
    ("histories", "Fault"): ("", ["history", "steps", "chain"]),
    ("hands", "Woven"): ("tree(), torn(), untrue(), redo(wanted), is_right(wanted)", ["done", "doing"]),
}


def calls_in(text):
    """The pairs of a name and its parameters, as they are written."""
    return re.findall(r"(\w+)\(((?:[^()]|\(\))*)\)", text)


def shown(function):
    """The parameters of a function as the interface writes them, that of an object itself left out."""
    told = [str(one) for one in inspect.signature(function).parameters.values() if one.name != "self"]
    return ", ".join(told)


class InterfaceTest(unittest.TestCase):
    def test_functions(self):
        for file, text in FUNCTIONS.items():
            module = importlib.import_module("noteshold." + file)
            for name, params in calls_in(text):
                function = getattr(module, name)
                self.assertTrue(inspect.isfunction(function))
                self.assertEqual(function.__module__, "noteshold." + file)
                self.assertEqual(shown(function), params)

    def test_classes(self):
        for (file, call), text in CLASSES.items():
            module = importlib.import_module("noteshold." + file)
            name, params = calls_in(call)[0]
            kind = getattr(module, name)
            self.assertEqual(kind.__module__, "noteshold." + file)
            self.assertEqual(shown(kind), params)
            for method, told in calls_in(text):
                self.assertIn(method, vars(kind))
                self.assertEqual(shown(vars(kind)[method]), told)

    def test_classes_made_by_the_package(self):
        work, tree = Work([]), Tree()
        stage = Stage({"a": Tree({"x": ""}), "b": tree}, {"h": ("a", "b", "c")})
        made = {"Build": build(work, {}, tree, []), "Rebuilt": rebuilt(work, {}, tree, {}, []),
                "Woven": weave(work, {}, tree, {}, []),
                "Fault": judged(stage, [("edit", "a", [("drop", "x")])], {"p": (["x"], [])}, Rule([]))}
        for (file, name), (text, attributes) in MADE.items():
            kind = getattr(importlib.import_module("noteshold." + file), name)
            self.assertEqual((kind.__module__, kind.__name__), ("noteshold." + file, name))
            for method, told in calls_in(text):
                self.assertIn(method, vars(kind))
                self.assertEqual(shown(vars(kind)[method]), told)
            self.assertIsInstance(made[name], kind)
            self.assertTrue(all(attribute in vars(made[name]) for attribute in attributes))

    def test_attributes(self):
        for thing in (Run([], ""), Cache(Rule([])), Row()):
            for attribute in KEPT[type(thing).__name__]:
                self.assertIn(attribute, vars(thing))

    def test_static_methods(self):
        for file, name in [("versions", "Range"), ("index", "Row")]:
            kind = getattr(importlib.import_module("noteshold." + file), name)
            self.assertIsInstance(vars(kind)["read"], staticmethod)
            self.assertEqual(shown(kind.read), "text")


class ErrorsTest(unittest.TestCase):
    def told(self):
        return [(name, [param for param in params.split(", ") if param]) for name, params in calls_in(ERRORS)]

    def test_bases(self):
        self.assertEqual(errors.NoteError.__bases__, (ValueError,))
        self.assertEqual(len(self.told()), 49)
        for name, _ in self.told():
            self.assertEqual(getattr(errors, name).__bases__, (errors.NoteError,))
            self.assertEqual(getattr(errors, name).__module__, "noteshold.errors")
        own = [one for one in vars(errors).values() if isinstance(one, type)]
        self.assertEqual(len(own), 50)

    def test_they_keep_the_very_objects(self):
        for name, params in self.told():
            kind = getattr(errors, name)
            things = [[param] for param in params]
            by_place, by_name = kind(*things), kind(**dict(zip(params, things)))
            for param, thing in zip(params, things):
                self.assertIs(getattr(by_place, param), thing)
                self.assertIs(getattr(by_name, param), thing)
            if params:
                self.assertEqual(shown(kind), ", ".join(params))
            with self.assertRaises(ValueError):
                raise by_place


if __name__ == "__main__":
    unittest.main()
