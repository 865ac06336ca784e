"""A call of every function, class and method of the interface, with its arguments by their names."""

import inspect

from noteshold import barring, books, builds, caches, choices, choosing, ends, forced, hands, histories, index, keys
from noteshold import patterns, reasons, roads, rules, sights, stage_texts, stages, step_texts, steps, texts, times
from noteshold import trees, upgrades, versions, words, works, workshop
from noteshold.books import Book
from noteshold.builds import build
from noteshold.caches import Cache
from noteshold.choosing import chosen
from noteshold.hands import weave
from noteshold.index import Index, Row, wish_text
from noteshold.rules import Rule
from noteshold.stages import Stage
from noteshold.steps import Run, Step
from noteshold.trees import Tree
from noteshold.versions import Range
from noteshold.works import Work
from noteshold.workshop import Workshop

EVERY = Range([(1, 20)])
TREE = Tree({"a/b": "1", "c": ""})
OTHER = Tree({"a/b": "1", "c": "x"})
SEEN = [(("read", "a/b"), "1"), [["list", "a"], ["b"]]]
LIB_TREE = ("ask", ("read", "src"), [(None, ("end", "none", []))], ("end", "ok", [("x", "1")]))
LIB = Step(LIB_TREE)
APP = Step(("ask", ("read", "lib/x"), [("1", ("end", "good", [("y", "2")]))], ("end", "bad", [])))
STEPS = {"app": APP, "lib": LIB}
WORK = Work(["app", "lib"])
SRC = Tree({"src": "s"})
RUN = LIB.run(SRC)
MADE = build(WORK, STEPS, SRC, ["app"])
RUNS = MADE.runs
BOOKS = {"lib": Book([RUN])}
RULE = Rule([("contents", None)])
ENTRIES = [("home", "lib", RUN), ["home", "lib", LIB.run(Tree())], ("nest", "app", RUNS["app"])]
CACHE = Cache(RULE, ENTRIES)
FACTS = [(("read", "src"), "s")]

ROWS = {("app", 1): Row(["f"], [("f", [("lib", Range([(1, 2)]))], [])]), ("app", 2): Row([], [(None, [("lib", Range([(3, 3)]))], [])]),
        ("lib", 2): Row(), ("lib", 3): Row([], [(None, [("log", EVERY)], [])], [("app", Range([(9, 9)]))]), ("log", 1): Row()}
INDEX = Index(ROWS)
WISHES = [("app", EVERY, []), ["log", EVERY, []]]
CHOICE = {"app": 2, "lib": 3, "log": 1}
OLD = {"app": 1, "log": 1}
NEVER = [("app", Range([(5, 6)]), [])]
LOCKED = Work(["doc", "lock"])
DOC = Step(("ask", ("read", "lock/app"), [], ("ask", ("read", "src"), [], ("end", "", [("x", "1")]))))
FULL = Tree({"src": "s", "wish": wish_text(WISHES), **INDEX.files()})
BUILT = build(LOCKED, {"doc": DOC}, FULL, ["doc"]).runs

STAGE = Stage({"main": Tree({"src": "s"}), "feat": Tree({"src": "t"}), "store": Tree()}, {"home": ("main", "store", "c")})
EDIT = ("edit", "main", [("put", "src", "t")])
DEEDS = [EDIT, ["copy", "feat", "main"]]
HISTORY = [*DEEDS, ("build", "home")]
MANNERS = {"lib": (["src"], []), "app": [[], ["lib/*"]]}
WOVEN = [("begin", "a", "app"), ["on", "a"], ("begin", "b", "lib"), ("on", "b"), ("on", "b")]
LENGTHS = {"app": 2, "lib": 3}
SHOP = Workshop(STAGE, {"lib": LIB, "app": APP}, RULE)
SHOP.do(EDIT)
SHOP.do(("build", "home"))
SHOP.do(("lose", "c"))
SHOP.undo()


def calls_of(kind, rows):
    """Pairs of what has these names and of its arguments, in the order of its parameters."""
    found = []
    for name, told in rows.items():
        params = inspect.signature(getattr(kind, name)).parameters
        found.append((getattr(kind, name), {param: told[param] for param in [*params, *told] if param in told}))
    return found


def plain_calls():
    """Pairs of a function and its arguments by their names: trees, steps, and what is known of them."""
    look, path = ("read", "a/b"), "a/b"
    return [
        *calls_of(trees, {"Tree": {"files": {"a/b": "1"}}, "changes_between": {"one": TREE, "other": OTHER},
                          "touched": {"one": TREE, "other": OTHER}}),
        *calls_of(TREE, {"files": {}, "answer": {"look": ("list", "a")}, "after": {"changes": [("drop", "c"), ["put", "d", ""]]},
                         "part": {"path": "a"}, "firsts": {}}),
        *calls_of(sights, {"is_sight": {"thing": [look, "1"]}, "sort_of": {"sight": (look, "1")},
                           "untrue": {"sights": SEEN, "tree": Tree()}, "bars": {"one": (look, "1"), "other": (look, None)},
                           "apart": {"sights": SEEN}, "tree_of": {"sights": SEEN}, "nearest": {"tree": SRC, "sights": SEEN},
                           "follows": {"sights": SEEN, "sight": (("read", "a"), None)}, "least": {"sights": SEEN},
                           "sure": {"sights": SEEN, "look": ("list", "a")}}),
        *calls_of(patterns, {"matches": {"pattern": "a/*", "path": path}, "missed": {"patterns": ["a/*"], "pattern": "**"},
                             "shared": {"one": "a/*", "other": "*/b"}}),
        *calls_of(steps, {"Step": {"tree": LIB_TREE}, "Run": {"sights": SEEN, "outcome": "o", "made": [("x", "1")]}}),
        *calls_of(LIB, {"tree": {}, "looks": {}, "run": {"tree": SRC}}),
        *calls_of(RUN, {"note": {}, "holds": {"tree": SRC}, "ends_as": {"other": RUN}}),
        *calls_of(ends, {"ends": {"step": LIB}, "makes": {"step": LIB, "path": "x"}, "parting": {"one": LIB, "other": APP},
                         "alike": {"one": LIB, "other": LIB}, "pruned": {"step": LIB}, "step_reasons": {"step": LIB, "run": RUN},
                         "is_step_reason": {"step": LIB, "run": RUN, "numbers": [0, 0]}}),
        *calls_of(books, {"clash": {"one": RUN, "other": RUN}, "one_reader": {"runs": [RUN, Run([], "")]},
                          "ways_to_one": {"runs": [RUN, Run([], "")]}, "Book": {"runs": [RUN, RUN]},
                          "step_of": {"book": BOOKS["lib"], "outcome": "o", "made": [("x", "1")]},
                          "two_steps": {"book": BOOKS["lib"], "tree": Tree()},
                          "moved_runs": {"book": BOOKS["lib"], "one": SRC, "other": Tree()},
                          "stays": {"book": BOOKS["lib"], "one": SRC, "other": SRC}}),
        *calls_of(BOOKS["lib"], {"all_runs": {}, "more": {"run": LIB.run(Tree())}, "says": {"tree": SRC}, "way": {"tree": Tree()}}),
    ]


def work_calls():
    """The same of works, builds, rules and caches."""
    at = {"work": WORK, "sources": SRC}
    return [
        *calls_of(works, {"Work": {"names": ["b", "a"]}}),
        *calls_of(WORK, {"names": {}, "need": {"look": ("list", "lib")}, "tree": {"sources": SRC, "made": {"lib": {"x": "1"}}}}),
        *calls_of(builds, {"build": {**at, "steps": STEPS, "wanted": ["app"]}, "together": {**at, "runs": RUNS},
                           "ends_of": {**at, "books": BOOKS}}),
        *calls_of(MADE, {"made_files": {}, "tree": {}, "order": {}, "ring": {}}),
        *calls_of(forced, {"settled": {**at, "books": BOOKS}, "standing": {**at, "books": BOOKS},
                           "two_works": {**at, "books": BOOKS, "name": "app"}, "forced": {**at, "books": BOOKS, "wanted": ["app"]},
                           "rebuilt": {**at, "steps": STEPS, "books": BOOKS, "wanted": ["app"]},
                           "again_needed": {"work": WORK, "runs": RUNS, "later": Tree()}}),
        *calls_of(rules, {"Rule": {"kept": [("names", "a"), ["lacking", None]]}, "loose": {"rule": RULE, "run": RUN, "facts": FACTS},
                          "safe": {"rule": RULE, "run": RUN, "facts": FACTS}, "stray": {"rule": Rule([]), "run": RUN, "facts": []}}),
        *calls_of(RULE, {"has": {"sort": "names", "path": "a"}, "kept": {}, "keeps": {"other": Rule([])}, "note": {"run": RUN}}),
        *calls_of(caches, {"Cache": {"rule": RULE, "entries": ENTRIES}, "out_of": {**at, "cache": CACHE}}),
        *calls_of(CACHE, {"entries": {}, "more": {"entry": ["nest", "lib", RUN]}, "less": {"index": 0},
                          "found": {"name": "lib", "tree": SRC}, "strays": {"name": "lib", "tree": SRC},
                          "answer": {"name": "lib", "tree": SRC}, "poisoned": {}, "clash": {}, "answers_in": {"index": 2},
                          "missed_in": {"index": 2}, "never": {}, "idle": {}, "lean": {}, "least": {"asks": [("lib", SRC), ["lib", Tree()]]},
                          "shared": {"facts": FACTS}, "foreign": {"facts": FACTS}, "for_house": {"facts": FACTS}}),
    ]


def package_calls():
    """The same of packages."""
    at = {"index": INDEX, "wishes": WISHES}
    locks = {**at, "lock": OLD}
    told = barring.barring(INDEX, NEVER)
    note, threat = reasons.reasons(INDEX, WISHES)[0], reasons.threats(INDEX, WISHES)[0]
    return [
        *calls_of(versions, {"Range": {"spans": [(1, 2), [4, 4]]}}),
        *calls_of(EVERY, {"spans": {}, "text": {}}), (Range.read, {"text": "1-3,7"}),
        *calls_of(index, {"Row": {"features": ["f"], "needs": [("f", [["lib", EVERY]], [])], "clashes": [["lib", EVERY]]},
                          "Index": {"rows": ROWS}, "index_of": {"tree": FULL}, "wish_text": {"wishes": WISHES},
                          "wish_read": {"text": wish_text(WISHES)}}),
        *calls_of(ROWS["lib", 3], {"text": {}}), (Row.read, {"text": ROWS["app", 1].text()}),
        *calls_of(INDEX, {"packages": {}, "versions": {"package": "app"}, "put": {"place": ["lib", 4], "row": Row()},
                          "without": {"place": ["lib", 2]}, "files": {}}),
        *calls_of(choices, {"is_right": {**at, "choice": CHOICE}, "is_lean": {**at, "choice": CHOICE}, "lit": {**at, "choice": CHOICE},
                            "first": at, "choices": at, "how_many": at, "number_of": {**at, "choice": CHOICE},
                            "choice_at": {**at, "number": 1}, "spread": at}),
        *calls_of(choosing, {"chosen": {"tree": FULL}}),
        *calls_of(barring, {"barring": {"index": INDEX, "wishes": NEVER}, "blames": {"index": INDEX, "wishes": WISHES + NEVER},
                            "is_barring": {"index": INDEX, "wishes": NEVER, "thing": told},
                            "peaces": {"index": INDEX, "wishes": WISHES + NEVER}}),
        *calls_of(reasons, {"cells": at, "sights_of": {"tree": FULL, "some": [("lib", 1, 2), ["log", 1, 1]]},
                            "is_note": {**at, "thing": note}, "reasons": at, "threats": at, "harm": {**at, "threat": threat}}),
        *calls_of(upgrades, {"lock_of": {"tree": Tree({"lock/app": "1"})}, "news": {"lock": OLD, "choice": CHOICE}, "upgrade": locks,
                             "kept": locks, "unkept": locks, "is_upgrade_note": {**locks, "thing": note}, "upgrade_reasons": locks,
                             "upgrade_threats": locks, "steps": {**at, "one": OLD, "goal": {**OLD, "lib": 2}},
                             "closed": {**at, "one": OLD, "goal": CHOICE},
                             "is_closed": {**at, "one": OLD, "goal": CHOICE, "thing": upgrades.closed(INDEX, WISHES, OLD, CHOICE)}}),
        *calls_of(keys, {"view": {"index": INDEX, "choice": CHOICE, "package": "app"},
                         "is_key": {**at, "package": "app", "packages": ["lib"]}, "keys": {**at, "package": "app"},
                         "twins": {**at, "package": "app", "packages": []},
                         "view_runs": {"index": INDEX, "choice": CHOICE, "package": "app"}}),
    ]


def meeting_calls():
    """The same of works that packages are chosen for, of stages and of hands."""
    at = {"work": LOCKED, "sources": FULL, "runs": BUILT}
    told = roads.roads(LOCKED, FULL, BUILT, "doc")[0]
    now = FULL.after([("drop", "index/app/2")])
    judge = {"stage": STAGE, "deeds": DEEDS, "manners": MANNERS}
    weaving = {"work": WORK, "steps": STEPS, "sources": SRC, "stood": {"lib": {"x": "0"}}}
    return [
        *calls_of(roads, {"roads": {**at, "name": "doc"}, "is_road": {**at, "name": "doc", "sights": told},
                          "parted": {**at, "name": "doc", "sights": told[1:]}}),
        *calls_of(words, {"words": {**at, "now": now}, "not_left": {**at, "change": ["drop", "src"]},
                          "words_by": {**at, "now": now, "choice": {"app": 1, "log": 1}}, "quiet": {**at, "now": now}}),
        *calls_of(stages, {"Stage": {"shelves": {"a": SRC, "b": Tree()}, "houses": {"h": ["a", "b", "c"]}},
                           "moments": {"stage": STAGE, "history": HISTORY},
                           "keeps_to": {"manners": MANNERS, "name": "lib", "run": RUN}, "table": {"stage": STAGE, "deeds": DEEDS},
                           "is_table": {"stage": STAGE, "deeds": DEEDS, "thing": stages.table(STAGE, DEEDS)}}),
        *calls_of(STAGE, {"shelves": {}, "houses": {}, "sources": {"house": "home"}, "after": {"history": HISTORY}}),
        *calls_of(histories, {"judged": {**judge, "rule": Rule([])}, "locked": {**judge, "patterns": ["src/**"]},
                              "least_rules": {**judge, "kept": [("contents", "src"), ["contents", "lib"], ("names", None), ("nofolder", None)]},
                              "least_locks": {**judge, "patterns": ["src", "*"]}}),
        *calls_of(hands, {"weave": {**weaving, "deeds": WOVEN}, "least_holds": {**weaving, "wanted": ["app"]},
                          "keeps": {**weaving, "deeds": WOVEN, "holds": [("app", ("read", "lib/x")), ["app", ["list", "lib"]]]},
                          "bad_weaving": {**weaving, "wanted": ["app"], "index": 0},
                          "may_begin": {"work": WORK, "sources": SRC, "books": BOOKS, "stood": {}, "name": "lib"}}),
        *calls_of(weave(**weaving, deeds=WOVEN), {"tree": {}, "torn": {}, "untrue": {}, "redo": {"wanted": ["app"]},
                                                  "is_right": {"wanted": ["app"]}}),
    ]


def last_calls():
    """The same of times, texts and workshops; a workshop is asked in a trial, so that it stays as it is."""
    timed = {"work": WORK, "runs": RUNS, "lengths": LENGTHS}
    runs = texts.write_runs(RUNS)
    return [
        *calls_of(times, {"chain_time": timed, "least_time": {**timed, "hands": 2},
                          "is_plan": {**timed, "hands": 2, "thing": [(0, 0, "lib"), [3, 1, "app"]]}}),
        *calls_of(texts, {"write_tree": {"tree": TREE}, "read_tree": {"text": texts.write_tree(TREE)}, "write_run": {"run": RUN},
                          "read_run": {"text": texts.write_run(RUN)}, "write_runs": {"runs": RUNS}, "read_runs": {"text": runs}}),
        *calls_of(step_texts, {"write_step": {"step": LIB}, "read_step": {"text": step_texts.write_step(LIB)}}),
        *calls_of(stage_texts, {"write_stage": {"stage": STAGE}, "read_stage": {"text": stage_texts.write_stage(STAGE)},
                                "write_deeds": {"deeds": HISTORY}, "read_deeds": {"text": stage_texts.write_deeds(HISTORY)}}),
        *calls_of(workshop, {"Workshop": {"stage": STAGE, "steps": {"lib": LIB, "app": APP}, "rule": RULE}}),
        *calls_of(SHOP, {"stage": {}, "cache": {"name": "c"}, "runs_of": {"house": "home"}, "tree": {"house": "home"},
                         "is_clean": {"house": "home"}, "deeds": {}, "copy": {}, "trial": {"work": all_of_a_shop}}),
        (tried_do, {"deed": ["edit", "main", [["put", "src", "u"]]]}), (tried_do, {"deed": ("build", "home")}),
    ]


def tried_do(deed):
    return SHOP.trial(lambda shop: [shop.do(deed=deed), all_of_a_shop(shop)])


def all_of_a_shop(shop):
    return [shop.stage(), shop.cache("c").entries(), shop.runs_of("home"), shop.tree("home"), shop.is_clean("home"), shop.deeds(),
            len(shop)]


def all_calls():
    return [*plain_calls(), *work_calls(), *package_calls(), *meeting_calls(), *last_calls()]
