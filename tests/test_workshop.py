"""The workshop (13.1 to 13.4)."""

import itertools
import random
import unittest

from noteshold.builds import build
from noteshold.caches import Cache, out_of
from noteshold.choosing import chosen
from noteshold.errors import BadDeed, BadHouse, BadName, NoCache, NoHouse, NoteError, Nothing, TooEarly
from noteshold.histories import judged
from noteshold.index import Index, Row, wish_text
from noteshold.rules import SORTS, Rule
from noteshold.stage_texts import read_deeds, read_stage, write_deeds, write_stage
from noteshold.stages import Stage, moments
from noteshold.steps import Run, Step
from noteshold.trees import Tree
from noteshold.versions import Range
from noteshold.works import Work
from noteshold.workshop import Workshop
from tests import branches
from tests.worlds import odd_things, raised, read

ALL = Rule([(sort, None) for sort in SORTS])
NONE = Rule([])
END = Step(("end", "", []))


def reader(path, made="x", outcome=""):
    """A step that makes a file by which the texts of a path that are none, 0, 1 or others can be told."""
    cases = [(text, ("end", outcome, [(made, str(text))])) for text in (None, "0", "1")]
    return Step(("ask", ("read", path), cases, ("end", outcome, [(made, "?")])))


LIB, APP = reader("src/a"), reader("lib/x")
STEPS = {"lib": LIB, "app": APP}
STAGE = Stage({"main": Tree({"src/a": "0"}), "feat": Tree({"src/a": "1"}), "void": Tree(), "store": Tree({"got/f": "0"}),
               "odd": Tree({"app/x": "1"})},
              {"home": ("main", "store", "c"), "nest": ("feat", "void", "d"), "twin": ("main", "void", "c")})
EDIT = ("edit", "main", (("put", "src/a", "1"),))
BACK = ("edit", "main", (("put", "src/a", "0"),))
BUILD = ("build", "home")
WISH = wish_text([("p", Range([(1, 20)]), [])])


def looked_at(shop):
    """All that can be looked at in a workshop."""
    houses = shop.stage().houses()
    return [write_stage(shop.stage()), [(house, shop.runs_of(house), shop.tree(house), shop.is_clean(house)) for house in houses],
            [(cache, shop.cache(cache).entries()) for cache in sorted({value[2] for value in houses.values()})],
            shop.deeds(), len(shop)]


def all_back(shop):
    """What is seen as all deeds are undone one by one, and done again."""
    seen, many = [], 0
    while len(shop):
        shop.undo()
        many += 1
        seen.append(looked_at(shop))
    for _ in range(many):
        shop.again()
        seen.append(looked_at(shop))
    return seen


class MadeTest(unittest.TestCase):
    def test_it_is_empty_at_first(self):
        shop = Workshop(stage=STAGE, steps=STEPS, rule=ALL)
        self.assertEqual(shop.stage(), STAGE)
        self.assertEqual([shop.cache("c"), shop.cache("d")], [Cache(ALL), Cache(ALL)])
        for house in ("home", "nest", "twin"):
            self.assertEqual([shop.runs_of(house), shop.tree(house), shop.is_clean(house)], [{}, None, True])
        self.assertEqual([shop.deeds(), len(shop)], [[], 0])

    def test_bad_names(self):
        for thing in odd_things():
            if not isinstance(thing, dict):
                self.assertIs(raised(BadName, lambda: Workshop(STAGE, thing, ALL)).name, thing)
            if not isinstance(thing, Step):
                self.assertEqual(raised(BadName, lambda: Workshop(STAGE, {"lib": LIB, "q": thing, "A": END}, ALL)).name, "q")
        for name in [None, 0, True, "", "A", "a/b", "lock", "abcdefghi", ("a",), Tree]:
            self.assertIs(raised(BadName, lambda: Workshop(STAGE, {"lib": LIB, name: END, "": END}, ALL)).name, name)
        self.assertEqual(raised(BadName, lambda: Workshop(STAGE, {"q": None, "lock": END}, ALL)).name, "q")
        self.assertEqual(raised(BadName, lambda: Workshop(STAGE, {"lock": END, "q": None}, ALL)).name, "lock")

    def test_too_early(self):
        def early(steps):
            error = raised(TooEarly, lambda: Workshop(STAGE, steps, ALL))
            return error.name, error.look

        self.assertEqual(early({"app": APP, "lib": LIB}), ("app", ("read", "lib/x")))
        self.assertEqual(early({"app": reader("app/x")}), ("app", ("read", "app/x")))
        self.assertEqual(early({"lib": LIB, "app": Step(("ask", ("list", "app"), [], ("end", "", [])))}), ("app", ("list", "app")))
        deep = Step(("ask", ("read", "p"), [(None, ("ask", ("read", "src"), [], ("ask", ("list", "q/x"), [], ("end", "", []))))],
                     ("ask", ("read", "q/x"), [], ("ask", ("list", "p"), [], ("end", "", [])))))
        # What reads just a step's name needs nothing.
        self.assertEqual(early({"o": END, "p": deep, "q": reader("q/x")}), ("p", ("list", "q/x")))
        self.assertEqual(early({"o": END, "q": reader("src/a"), "p": deep}), ("p", ("list", "p")))
        self.assertEqual(len(Workshop(STAGE, {"q": END, "p": Step(("ask", ("read", "p"), [], ("end", "", [])))}, ALL)), 0)

    def test_bad_houses(self):
        for steps, house in [({"got": END}, "home"), ({"src": END}, "home"), ({"x": END, "app": END}, None)]:
            if house is None:
                Workshop(STAGE, steps, ALL)
            else:
                self.assertEqual(raised(BadHouse, lambda: Workshop(STAGE, steps, ALL)).name, house)
        stage = Stage({"odd": Tree({"app/x": "1"}), "even": Tree({"app": ""}), "void": Tree()},
                      {"z": ("odd", "void", "c"), "k": ("void", "even", "c"), "a": ("void", "void", "c")})
        self.assertEqual(raised(BadHouse, lambda: Workshop(stage, {"app": END}, ALL)).name, "k")

    def test_several_wrong_at_once(self):
        stage = Stage({"odd": Tree({"app/x": "1"}), "void": Tree()}, {"z": ("odd", "void", "c")})
        steps = {"app": reader("lib/x"), "lib": END}
        self.assertEqual(raised(BadName, lambda: Workshop(stage, {**steps, "A": END}, ALL)).name, "A")
        self.assertEqual(raised(TooEarly, lambda: Workshop(stage, steps, ALL)).name, "app")
        self.assertEqual(raised(BadHouse, lambda: Workshop(stage, {"lib": END, "app": reader("lib/x")}, ALL)).name, "z")

    def test_later_changes_have_no_effect(self):
        steps, changes = dict(STEPS), [["put", "src/a", "1"]]
        shop = Workshop(STAGE, steps, ALL)
        steps["lib"] = None
        del steps["app"]
        deed = ["edit", "main", changes]
        shop.do(deed)
        changes[0][2] = "2"
        deed[0] = "copy"
        self.assertEqual(shop.deeds(), [EDIT])
        self.assertEqual(shop.do(["build", "home"]), [("lib", "ran", ""), ("app", "ran", "")])
        for told in (shop.deeds(), shop.runs_of("home"), shop.do(BUILD), shop.stage().shelves(), shop.cache("c").entries()):
            told.clear()
        self.assertEqual([len(shop.deeds()), list(shop.runs_of("home")), len(shop.cache("c"))], [3, ["lib", "app"], 2])


class DeedsTest(unittest.TestCase):
    def test_builds(self):
        shop = Workshop(STAGE, STEPS, ALL)
        self.assertEqual(shop.do(deed=BUILD), [("lib", "ran", ""), ("app", "ran", "")])
        lib, app = Run([read("src/a", "0")], "", [("x", "0")]), Run([read("lib/x", "0")], "", [("x", "0")])
        self.assertEqual(shop.cache("c").entries(), [("home", "lib", lib), ("home", "app", app)])
        self.assertEqual(list(shop.runs_of("home").items()), [("lib", lib), ("app", app)])
        self.assertEqual(shop.tree("home"), Tree({"src/a": "0", "got/f": "0", "lib/x": "0", "app/x": "0"}))
        self.assertEqual(shop.do(BUILD), [("lib", "left", ""), ("app", "left", "")])
        self.assertEqual(len(shop.cache("c")), 2)
        # A house with the same cache is told of it, another one is not.
        self.assertEqual(shop.do(("build", "twin")), [("lib", "left", ""), ("app", "left", "")])
        self.assertEqual([shop.runs_of("twin"), shop.tree("twin")],
                         [{"lib": lib, "app": app}, Tree({"src/a": "0", "lib/x": "0", "app/x": "0"})])
        self.assertEqual([shop.runs_of("nest"), len(shop.cache("d"))], [{}, 0])
        self.assertIsNone(shop.do(EDIT))
        self.assertEqual(shop.tree("home").files()["src/a"], "0")
        self.assertEqual(shop.do(("build", "twin")), [("lib", "ran", ""), ("app", "ran", "")])
        self.assertEqual([house for house, _, _ in shop.cache("c")], ["home", "home", "twin", "twin"])
        self.assertEqual(shop.do(("build", "nest")), [("lib", "ran", ""), ("app", "ran", "")])

    def test_what_is_left_hangs_on_what_was_made_in_this_build(self):
        steps = {"lib": LIB, "app": reader("lib/x"), "top": reader("app/x")}
        shop = Workshop(STAGE, steps, Rule([("contents", "lib"), ("contents", "app")]))
        shop.do(BUILD)
        shop.do(EDIT)
        # What the rule drops of lib is not asked for: it is left, and so are the others.
        self.assertEqual([word for _, word, _ in shop.do(BUILD)], ["left", "left", "left"])
        self.assertFalse(shop.is_clean("home"))
        shop = Workshop(STAGE, steps, Rule([("contents", "src"), ("contents", "app")]))
        shop.do(BUILD)
        shop.do(EDIT)
        self.assertEqual([word for _, word, _ in shop.do(BUILD)], ["ran", "left", "left"])
        self.assertEqual([shop.tree("home").files()[name + "/x"] for name in steps], ["1", "0", "0"])
        self.assertFalse(shop.is_clean("home"))
        shop.do(("lose", "c"))
        self.assertEqual([word for _, word, _ in shop.do(BUILD)], ["ran", "ran", "ran"])
        self.assertTrue(shop.is_clean("home"))

    def test_the_last_entry_answers(self):
        shop = Workshop(STAGE, {"lib": LIB}, NONE)
        shop.do(BUILD)
        shop.do(EDIT)
        self.assertEqual(shop.do(BUILD), [("lib", "left", "")])
        shop = Workshop(STAGE, {"lib": Step(("ask", ("read", "src/b"), [(None, LIB.tree())], ("end", "b", [])))},
                        Rule([("lacking", None)]))
        shop.do(("edit", "main", [("put", "src/b", "")]))
        self.assertEqual(shop.do(BUILD), [("lib", "ran", "b")])
        shop.do(("edit", "main", [("drop", "src/b")]))
        # An entry without a note is found in every tree.
        self.assertEqual([shop.do(BUILD), shop.is_clean("home")], [[("lib", "left", "b")], False])
        shop.do(("lose", "c"))
        self.assertEqual([shop.do(BUILD), shop.is_clean("home")], [[("lib", "ran", "")], True])

    def test_is_clean_goes_by_files_alone(self):
        tree = ("ask", ("read", "src/a"), [("0", ("end", "one", []))], ("end", "two", []))
        shop = Workshop(STAGE, {"lib": Step(tree)}, NONE)
        shop.do(BUILD)
        shop.do(EDIT)
        self.assertEqual([shop.do(BUILD), shop.is_clean("home")], [[("lib", "left", "one")], True])

    def test_is_clean_goes_by_the_sources_that_the_house_had(self):
        shop = Workshop(STAGE, STEPS, NONE)
        shop.do(BUILD)
        shop.do(EDIT)
        self.assertTrue(shop.is_clean("home"))
        shop.do(BUILD)
        self.assertFalse(shop.is_clean("home"))
        shop.do(BACK)
        self.assertFalse(shop.is_clean("home"))
        shop.do(BUILD)
        self.assertTrue(shop.is_clean("home"))

    def test_choose(self):
        index = Index({("p", 2): Row(), ("p", 3): Row()})
        stage = Stage({"main": Tree({"wish": WISH, "lock/q": "7"}), "store": Tree(index.files())}, {"home": ("main", "store", "c")})
        shop = Workshop(stage, {"app": reader("lock/p")}, ALL)
        self.assertEqual(shop.do(("choose", "home")), "right")
        self.assertEqual(shop.stage().shelves()["main"], Tree({"wish": WISH, "lock/p": "3"}))
        self.assertEqual(shop.do(("build", "home")), [("app", "ran", "")])
        shop.do(("edit", "store", [("drop", "index/p/2"), ("drop", "index/p/3")]))
        self.assertEqual(shop.do(("choose", "home")), "none")
        self.assertEqual(shop.stage().shelves()["main"], Tree({"wish": WISH}))
        shop.do(("edit", "main", [("put", "wish", "w")]))
        self.assertEqual(shop.do(("choose", "home")), "odd")
        shop.do(("edit", "main", [("put", "lock", ""), ("put", "wish", WISH)]))
        self.assertEqual(shop.do(("choose", "home")), "none")
        shop.do(("edit", "store", [("put", "index/p/1", "")]))
        self.assertEqual(raised(BadDeed, lambda: shop.do(("choose", "home"))).index, 0)

    def test_all_others_tell_nothing(self):
        shop = Workshop(STAGE, STEPS, ALL)
        told = [shop.do(deed) for deed in [EDIT, ("copy", "main", "feat"), ("move", "home", 0, "feat"), ("move", "home", 1, "void"),
                                           ("lose", "c"), ("edit", "void", [])]]
        self.assertEqual(told, [None] * 6)
        self.assertEqual(shop.stage().houses()["home"], ("feat", "void", "c"))
        self.assertEqual(len(shop), 6)

    def test_bad_deeds(self):
        shop = Workshop(STAGE, STEPS, ALL)
        shop.do(BUILD)
        shop.undo()
        ahead = looked_at(shop)
        barred = [("edit", "main", [("put", "app/y", "")]), ("edit", "main", [("put", "lib", "")]), ("copy", "main", "odd"),
                  ("copy", "store", "odd"), ("move", "home", 0, "odd"), ("move", "nest", 1, "odd"),
                  ("edit", "void", (("put", "src/b", ""),)), ("move", "home", 1, "feat"), ("copy", "store", "main")]
        wrong = [*odd_things(), ("build",), ("build", "none"), ("build", "home", "c"), ("choose", "c"), ("lose", "home"),
                 ("lose", "e"), ("move", "home", 2, "feat"), ("move", "home", True, "void"), ("move", "home", 0, "none"),
                 ("copy", "main", "none"), ("copy", "none", "main"), ("edit", "none", []), ("edit", "main", [("drop", "src/b")]),
                 ("edit", "main", [("put", "src", "")]), ("edit", "main", ("put", "src/a", "1")), ("edit", "main", "ab"),
                 ("edit", "main", [("put", "src/a", None)]), [BUILD], ("odd", "home"), {0: "build", 1: "home"}]
        for deed in barred + wrong:
            self.assertEqual(raised(BadDeed, lambda: shop.do(deed)).index, 0)
            self.assertEqual(looked_at(shop), ahead)
        # What was undone can still be done again: an error changes nothing.
        self.assertEqual(shop.again(), BUILD)
        # No house has it: the shelf may hold files of steps.
        self.assertIsNone(shop.do(("edit", "odd", [("put", "lib/y", "")])))

    def test_no_house_and_no_cache(self):
        shop = Workshop(STAGE, STEPS, ALL)
        for thing in [*odd_things(), "c", "main"]:
            for work in (shop.runs_of, shop.tree, shop.is_clean):
                self.assertIs(raised(NoHouse, lambda: work(thing)).name, thing)
        for thing in [*odd_things(), "home", "main"]:
            self.assertIs(raised(NoCache, lambda: shop.cache(thing)).name, thing)
        self.assertEqual([shop.runs_of(house="home"), shop.tree(house="home"), shop.is_clean(house="home"), shop.cache(name="d")],
                         [{}, None, True, Cache(ALL)])

    def test_without_steps_and_without_houses(self):
        shop = Workshop(Stage({}, {}), {}, NONE)
        self.assertEqual(raised(BadDeed, lambda: shop.do(BUILD)).index, 0)
        shop = Workshop(STAGE, {}, NONE)
        self.assertEqual([shop.do(BUILD), shop.is_clean("home"), shop.tree("home")], [[], True, STAGE.sources("home")])
        self.assertEqual(shop.do(("edit", "main", [("put", "app/x", "")])), None)


class TakenBackTest(unittest.TestCase):
    def test_undo_and_again(self):
        shop = Workshop(STAGE, STEPS, ALL)
        raised(Nothing, shop.undo)
        raised(Nothing, shop.again)
        states = [looked_at(shop)]
        deeds = [BUILD, EDIT, ["build", "home"], ["edit", "feat", []], ("lose", "c"), BACK, BUILD, ("move", "home", 0, "feat"), BUILD]
        plain = [BUILD, EDIT, BUILD, ("edit", "feat", ()), ("lose", "c"), BACK, BUILD, ("move", "home", 0, "feat"), BUILD]
        for deed in deeds:
            shop.do(deed)
            states.append(looked_at(shop))
        self.assertEqual(shop.deeds(), plain)
        for k in range(len(deeds) - 1, -1, -1):
            self.assertEqual(shop.undo(), plain[k])
            self.assertEqual(looked_at(shop), states[k])
            self.assertEqual([shop.deeds(), len(shop)], [plain[:k], k])
        raised(Nothing, shop.undo)
        for k, deed in enumerate(plain):
            self.assertEqual(shop.again(), deed)
            self.assertEqual(looked_at(shop), states[k + 1])
        raised(Nothing, shop.again)

    def test_a_new_deed_bars_again(self):
        shop = Workshop(STAGE, STEPS, ALL)
        for deed in (BUILD, EDIT, BACK):
            shop.do(deed)
        shop.undo()
        shop.undo()
        shop.do(("lose", "c"))
        raised(Nothing, shop.again)
        self.assertEqual(shop.deeds(), [BUILD, ("lose", "c")])
        shop.undo()
        self.assertEqual(shop.again(), ("lose", "c"))
        raised(Nothing, shop.again)

    def test_copy(self):
        shop = Workshop(STAGE, STEPS, ALL)
        for deed in (BUILD, EDIT, BUILD):
            shop.do(deed)
        shop.undo()
        other = shop.copy()
        self.assertIsInstance(other, Workshop)
        self.assertEqual(looked_at(other), looked_at(shop))
        ahead = looked_at(shop)
        self.assertEqual(other.again(), BUILD)
        self.assertEqual(looked_at(shop), ahead)
        other.do(("lose", "c"))
        other.do(("copy", "main", "feat"))
        self.assertEqual(looked_at(shop), ahead)
        told = looked_at(other)
        # What the one undoes and does anew is nothing to the other one.
        shop.undo()
        shop.do(("edit", "main", [("drop", "src/a")]))
        raised(Nothing, shop.again)
        self.assertEqual(looked_at(other), told)
        self.assertEqual([other.undo(), other.undo(), other.undo(), other.undo(), other.undo()],
                         [("copy", "main", "feat"), ("lose", "c"), BUILD, EDIT, BUILD])
        raised(Nothing, other.undo)
        self.assertEqual(shop.deeds(), [BUILD, ("edit", "main", (("drop", "src/a"),))])

    def test_trial(self):
        shop = Workshop(STAGE, STEPS, ALL)
        shop.do(BUILD)
        shop.do(EDIT)
        shop.undo()
        ahead = looked_at(shop)

        def told(here):
            self.assertIs(here, shop)
            here.do(EDIT)
            here.do(BUILD)
            here.undo()
            here.undo()
            here.undo()
            return [len(here), here.stage().shelves()["main"].files()]

        self.assertEqual(shop.trial(work=told), [0, {"src/a": "0"}])
        self.assertEqual(looked_at(shop), ahead)
        self.assertEqual(shop.copy().again(), EDIT)
        self.assertIsNone(shop.trial(lambda here: None))
        self.assertEqual(shop.trial(lambda here: here.again()), EDIT)
        self.assertEqual(looked_at(shop), ahead)
        self.assertEqual([shop.again(), shop.undo(), shop.undo()], [EDIT, EDIT, BUILD])

    def test_trial_within_a_trial(self):
        shop = Workshop(STAGE, STEPS, ALL)
        shop.do(EDIT)
        seen = []

        def inner(here):
            here.do(BUILD)
            here.undo()
            here.undo()
            seen.append(len(here))
            return "inner"

        def outer(here):
            here.do(BACK)
            here.do(BUILD)
            here.undo()
            ahead = looked_at(here)
            told = here.trial(inner)
            self.assertEqual(looked_at(here), ahead)
            self.assertEqual(here.again(), BUILD)
            seen.append(len(here))
            return [told, "outer"]

        ahead = looked_at(shop)
        self.assertEqual(shop.trial(outer), ["inner", "outer"])
        self.assertEqual(seen, [1, 3])
        self.assertEqual(looked_at(shop), ahead)
        raised(Nothing, shop.again)

    def test_an_error_leaves_a_trial(self):
        shop = Workshop(STAGE, STEPS, ALL)
        shop.do(BUILD)
        shop.undo()
        ahead = looked_at(shop)
        for error in (KeyError("k"), BadDeed(7), ZeroDivisionError()):
            def leave(here):
                here.do(EDIT)
                here.do(BUILD)
                raise error

            self.assertIs(raised(type(error), lambda: shop.trial(leave)), error)
            self.assertEqual(looked_at(shop), ahead)
        raised(BadDeed, lambda: shop.trial(lambda here: [here.do(EDIT), here.trial(lambda there: there.do("odd"))]))
        self.assertEqual(looked_at(shop), ahead)
        self.assertEqual(shop.again(), BUILD)

    def test_a_copy_out_of_a_trial_goes_on(self):
        shop = Workshop(STAGE, STEPS, ALL)

        def told(here):
            here.do(EDIT)
            return here.copy()

        other = shop.trial(told)
        self.assertEqual([shop.deeds(), other.deeds()], [[], [EDIT]])
        self.assertEqual([other.do(BUILD), other.undo(), other.undo()], [[("lib", "ran", ""), ("app", "ran", "")], BUILD, EDIT])


class WorldsTest(unittest.TestCase):
    def all_deeds(self, stage, deeds):
        houses = stage.houses()
        return [*deeds, *[("build", house) for house in houses], *[("lose", cache) for cache in {row[2]: 0 for row in houses.values()}],
                *[("choose", house) for house in houses]]

    def some_shop(self, seed, rule=None):
        chance = random.Random(seed)
        while True:
            stage, deeds, manners = branches.some_stage(chance), branches.some_deeds(chance), branches.some_manners(chance)
            if branches.has_barred(stage, manners):
                continue
            order = self.hanging_order(manners)
            steps = {name: branches.some_step_of_manner(chance, manners, name) for name in order}
            rule = branches.some_rule(chance) if rule is None else rule
            return chance, Workshop(stage, steps, rule), steps, rule, self.all_deeds(stage, deeds), manners, deeds

    def hanging_order(self, manners):
        """Each name behind those that its firsts and patterns begin with."""
        found = []
        while len(found) < len(manners):
            for name, (firsts, patterns) in manners.items():
                begun = [path.split("/")[0] for path in [*firsts, *patterns]]
                if name not in found and all(other in found for other in manners if other in begun):
                    found.append(name)
        return found

    def built_there(self, steps, sources, cache):
        """The build of 13.2, told word by word: triples (name, word, run), and the tree."""
        told, made = [], {}
        for name in steps:
            tree = Tree({**sources.files(), **{f"{other}/{path}": text for other in made for path, text in made[other]}})
            number = cache.answer(name, tree)
            run = steps[name].run(tree) if number is None else cache.entries()[number][2]
            told.append((name, "ran" if number is None else "left", run))
            made[name] = run.made
        return told, Tree({**sources.files(), **{f"{other}/{path}": text for other in made for path, text in made[other]}})

    def test_deed_by_deed(self):
        words = {}
        for seed in range(150):
            chance, shop, steps, rule, deeds, manners, _ = self.some_shop(seed)
            caches = {row[2]: Cache(rule) for row in shop.stage().houses().values()}
            last, row = {}, []
            for _ in range(chance.randint(3, 14)):
                deed, stage = chance.choice(deeds), shop.stage()
                try:
                    there = stage.after([deed])
                except BadDeed:
                    there = None
                if there is None or branches.has_barred(there, manners):
                    self.assertEqual(raised(BadDeed, lambda: shop.do(deed)).index, 0)
                    continue
                told = shop.do(deed)
                row.append(deed)
                self.assertEqual(shop.stage(), there)
                if deed[0] == "choose":
                    self.assertEqual(told, chosen(stage.sources(deed[1])).outcome)
                elif deed[0] == "build":
                    cache, sources = stage.houses()[deed[1]][2], stage.sources(deed[1])
                    expected, tree = self.built_there(steps, sources, caches[cache])
                    self.assertEqual(told, [(name, word, run.outcome) for name, word, run in expected])
                    clean = [run.made for _, _, run in self.built_there(steps, sources, Cache(rule))[0]]
                    last[deed[1]] = [{name: run for name, _, run in expected}, tree, [run.made for _, _, run in expected] == clean]
                    for name, word, run in expected:
                        words[word] = words.get(word, 0) + 1
                        if word == "ran":
                            caches[cache] = caches[cache].more((deed[1], name, run))
                else:
                    self.assertIsNone(told)
                    if deed[0] == "lose":
                        caches[deed[1]] = Cache(rule)
                for name, cache in caches.items():
                    self.assertEqual(shop.cache(name), cache)
                for house in stage.houses():
                    self.assertEqual([shop.runs_of(house), shop.tree(house), shop.is_clean(house)], last.get(house, [{}, None, True]))
                    self.assertEqual(list(shop.runs_of(house)), list(steps) if house in last else [])
            self.assertEqual(write_deeds(shop.deeds()), write_deeds(row))
        self.assertGreater(min(words.values()), 100)

    def test_taken_back_and_tried(self):
        """By chance deeds are done, undone, done again, tried and copied: all is as plain lists of deeds tell it."""
        for seed in range(60):
            chance, shop, steps, rule, deeds, _, _ = self.some_shop(1000 + seed)
            start = shop.stage()
            shops = [[shop, [], []]]
            for _ in range(25):
                one = chance.choice(shops)
                word = chance.choice(["do", "do", "do", "undo", "undo", "again", "copy", "trial"])
                if word == "do":
                    try:
                        one[0].do(chance.choice(deeds))
                        one[1], one[2] = one[0].deeds(), []
                    except BadDeed:
                        pass
                elif word == "undo" and one[1]:
                    self.assertEqual(one[0].undo(), one[1][-1])
                    one[1], one[2] = one[1][:-1], [one[1][-1], *one[2]]
                elif word == "again" and one[2]:
                    self.assertEqual(one[0].again(), one[2][0])
                    one[1], one[2] = [*one[1], one[2][0]], one[2][1:]
                elif word in ("undo", "again"):
                    raised(Nothing, one[0].undo if word == "undo" else one[0].again)
                elif word == "copy" and len(shops) < 3:
                    shops.append([one[0].copy(), list(one[1]), list(one[2])])
                elif word == "trial":
                    one[0].trial(lambda here: all_back(here))
                for here, done, undone in shops:
                    self.assertEqual(here.deeds(), done)
            for here, done, undone in shops:
                self.assertEqual(looked_at(here), looked_at(branches.shop_behind(start, steps, rule, done)[0]))
                self.assertEqual([here.again() for _ in undone], undone)
                raised(Nothing, here.again)
                self.assertEqual(looked_at(here), looked_at(branches.shop_behind(start, steps, rule, [*done, *undone])[0]))

    def test_right_rules_live(self):
        """With a right rule all builds are clean; with any other one a history ends with one that is not."""
        right = wrong = 0
        for seed in range(120):
            chance, shop, steps, rule, deeds, manners, told = self.some_shop(2000 + seed, ALL if seed % 4 == 0 else None)
            fault = judged(shop.stage(), told, manners, rule)
            if fault is None:
                right += 1
                deeds = [deed for deed in deeds if deed[0] != "choose"]
                for _ in range(20):
                    try:
                        shop.do(chance.choice(deeds))
                    except BadDeed:
                        continue
                    self.assertTrue(all(shop.is_clean(house) for house in shop.stage().houses()))
            else:
                wrong += 1
                there, _ = branches.shop_behind(shop.stage(), fault.steps, rule, fault.history)
                self.assertFalse(there.is_clean(fault.history[-1][1]))
        self.assertGreater(min(right, wrong), 15)

    def test_what_was_read_lives(self):
        """A stage and deeds that were read from texts do the same; the moments are those of the stage."""
        for seed in range(40):
            chance, shop, steps, rule, deeds, _, _ = self.some_shop(3000 + seed)
            start = shop.stage()
            for _ in range(8):
                try:
                    shop.do(chance.choice(deeds))
                except BadDeed:
                    pass
            again = Workshop(read_stage(write_stage(start)), steps, rule)
            for deed in read_deeds(write_deeds(shop.deeds())):
                again.do(deed)
            self.assertEqual(looked_at(again), looked_at(shop))
            self.assertEqual([house for _, house, _ in moments(start, shop.deeds())],
                             [deed[1] for deed in shop.deeds() if deed[0] == "build"])
            for house in start.houses():
                last = [sources for _, other, sources in moments(start, shop.deeds()) if other == house]
                if last:
                    files = shop.tree(house).files()
                    kept = {path: text for path, text in files.items() if path.split("/")[0] not in steps}
                    self.assertEqual(Tree(kept), last[-1])

    def test_with_a_rule_that_keeps_all_it_is_the_clean_build(self):
        for seed in range(60):
            chance, shop, steps, _, deeds, _, _ = self.some_shop(4000 + seed, ALL)
            for _ in range(10):
                try:
                    shop.do(chance.choice(deeds))
                except BadDeed:
                    pass
            for house in shop.stage().houses():
                shop.do(("build", house))
                work, sources = Work(list(steps)), shop.stage().sources(house)
                runs = build(work, steps, sources, list(steps)).runs
                self.assertEqual(shop.runs_of(house), runs)
                cache = shop.cache(shop.stage().houses()[house][2])
                told = out_of(work, sources, cache)
                self.assertEqual({name: cache.entries()[index][2] for name, index in told.items()}, runs)


class LimitsTest(unittest.TestCase):
    def test_sixty_deeds_with_eight_steps(self):
        names = [f"s{k}" for k in range(8)]
        steps = {name: Step(("ask", ("read", "src/a"), [("0", ("end", "", [("x", "0")]))], ("ask", ("list", names[k - 1] if k else "src"),
                                                                                           [(None, ("end", "none", []))],
                                                                                           ("end", "", [("x", str(k)), ("y", "1")]))))
                 for k, name in enumerate(names)}
        files = {f"src/f{k}": "" for k in range(11)}
        stage = Stage({"main": Tree({"src/a": "0", **files}), "store": Tree({f"got/p/{k}": "" for k in range(12)})},
                      {"h": ("main", "store", "c"), "k": ("main", "store", "c"), "m": ("main", "store", "d")})
        shop = Workshop(stage, steps, ALL)
        for k in range(30):
            shop.do(("edit", "main", [("put", "src/a", str(k % 7))]))
            shop.do(("build", "hkm"[k % 3]))
        self.assertEqual(len(shop), 60)
        self.assertTrue(all(shop.is_clean(house) for house in "hkm"))
        seen = all_back(shop)
        self.assertEqual(len(seen), 120)
        # What was seen on the way back is seen again on the way there.
        self.assertEqual(seen[:59], seen[60:119][::-1])

    def test_the_errors_are_the_programs(self):
        for error in (BadName, TooEarly, BadHouse, BadDeed, NoCache, NoHouse, Nothing):
            self.assertTrue(issubclass(error, NoteError))

    def test_all_rows_of_a_few_deeds(self):
        """All rows of four of a few deeds, done and undone: the same as done in a new workshop."""
        deeds = [BUILD, ("build", "twin"), EDIT, BACK, ("lose", "c")]
        rule = Rule([("contents", "src")])
        for row in itertools.product(deeds, repeat=4):
            shop, told = branches.shop_behind(STAGE, STEPS, rule, row)
            seen = looked_at(shop)
            shop.undo()
            shop.undo()
            self.assertEqual(looked_at(shop), looked_at(branches.shop_behind(STAGE, STEPS, rule, row[:2])[0]))
            self.assertEqual([shop.do(deed) for deed in row[2:]], told[2:])
            self.assertEqual(looked_at(shop), seen)


if __name__ == "__main__":
    unittest.main()
