"""Stages, deeds, moments, manners of steps, and tables (10.1 to 10.4, 10.8)."""

import random
import unittest

from noteshold.choosing import chosen
from noteshold.errors import BadDeed, BadHouse, BadManner, BadShelf, NoHouse, NoStep
from noteshold.index import Index, Row, wish_text
from noteshold.stages import Stage, is_table, keeps_to, moments, table
from noteshold.steps import Run
from noteshold.trees import Tree
from noteshold.versions import Range
from tests import branches
from tests.worlds import odd_things, raised, read

EVERY = Range([(1, 20)])
WISH = wish_text([("a", EVERY, [])])
ROWS = Index({("a", 1): Row(), ("a", 2): Row(needs=[(None, [("b", EVERY)], [])]), ("b", 3): Row()}).files()
SHELVES = {"main": Tree({"wish": WISH, "src/a": "0"}), "feat": Tree({"wish": WISH, "lock/z": "7", "src/a": "1"}),
           "store": Tree(ROWS), "late": Tree({"index/a/1": ROWS["index/a/1"]}), "void": Tree()}
HOUSES = {"home": ("main", "store", "c"), "flat": ["feat", "late", "d"], "hut": ("void", "void", "c")}
STAGE = Stage(SHELVES, HOUSES)


class StagesTest(unittest.TestCase):
    def test_what_it_has(self):
        self.assertEqual(list(STAGE.shelves()), ["feat", "late", "main", "store", "void"])
        self.assertEqual(list(STAGE.houses().items()), [("flat", ("feat", "late", "d")), ("home", ("main", "store", "c")),
                                                        ("hut", ("void", "void", "c"))])
        self.assertEqual(STAGE.sources("home"), Tree({"wish": WISH, "src/a": "0", **ROWS}))
        self.assertEqual(STAGE.sources(house="hut"), Tree())
        self.assertEqual(Stage({}, {}).shelves(), {})

    def test_what_is_returned_belongs_to_the_caller(self):
        shelves, houses = dict(SHELVES), dict(HOUSES)
        stage = Stage(shelves=shelves, houses=houses)
        shelves.clear()
        houses["flat"] = 7
        stage.shelves().clear()
        stage.houses().clear()
        self.assertEqual(stage, STAGE)

    def test_equality(self):
        self.assertEqual(STAGE, Stage(dict(reversed(SHELVES.items())), dict(reversed(HOUSES.items()))))
        self.assertNotEqual(STAGE, Stage({**SHELVES, "more": Tree()}, HOUSES))
        self.assertNotEqual(STAGE, Stage(SHELVES, {}))
        self.assertNotEqual(STAGE, Stage({**SHELVES, "void": Tree({"a": ""})}, {"home": HOUSES["home"]}))
        for thing in odd_things():
            self.assertFalse(STAGE == thing)

    def test_bad_shelves(self):
        for thing in odd_things():
            if not isinstance(thing, dict):
                self.assertIs(raised(BadShelf, lambda: Stage(thing, 7)).name, thing)
            if not isinstance(thing, Tree):
                self.assertEqual(raised(BadShelf, lambda: Stage({"a": Tree(), "b": thing, "C": 7}, 7)).name, "b")
        for name in (None, 7, "A", "a/b", ("a",), True):
            self.assertEqual(raised(BadShelf, lambda: Stage({"a": Tree(), name: Tree()}, 7)).name, name)

    def test_bad_houses(self):
        for thing in odd_things():
            if not isinstance(thing, dict):
                self.assertIs(raised(BadHouse, lambda: Stage({}, thing)).name, thing)
            self.assertEqual(raised(BadHouse, lambda: Stage(SHELVES, {"a": HOUSES["home"], "b": thing})).name, "b")
        for house in [("main", "none", "c"), ("none", "store", "c"), ("main", "store", "C"), ("main", "store"),
                      ("main", "store", "c", "d"), ("main", "feat", "c"), ("main", "main", "c")]:
            self.assertEqual(raised(BadHouse, lambda: Stage(SHELVES, {"z": house, "a": 7})).name, "z")
        self.assertEqual(raised(BadHouse, lambda: Stage(SHELVES, {"A": HOUSES["home"]})).name, "A")

    def test_no_house(self):
        for thing in odd_things() + ["main", "c"]:
            self.assertIs(raised(NoHouse, lambda: STAGE.sources(thing)).name, thing)


class DeedsTest(unittest.TestCase):
    def test_edit(self):
        behind = STAGE.after([("edit", "main", [("put", "b", "1"), ("drop", "src/a")]), ["edit", "main", [["drop", "b"]]]])
        self.assertEqual(behind.shelves()["main"], Tree({"wish": WISH}))
        self.assertEqual(behind.shelves()["feat"], SHELVES["feat"])

    def test_copy(self):
        behind = STAGE.after([("copy", "late", "store"), ("edit", "store", [("drop", "index/a/1")])])
        self.assertEqual(behind.shelves()["late"], Tree(ROWS))
        self.assertEqual(STAGE.after([("copy", "main", "main")]), STAGE)

    def test_move(self):
        behind = STAGE.after([("move", "home", 0, "feat"), ("move", "home", 1, "late")])
        self.assertEqual(behind.houses()["home"], ("feat", "late", "c"))
        self.assertEqual(behind.houses()["flat"], ("feat", "late", "d"))

    def test_choose(self):
        behind = STAGE.after([("choose", "home"), ("choose", "flat")])
        self.assertEqual(behind.shelves()["main"].files(), {"lock/a": "2", "lock/b": "3", "src/a": "0", "wish": WISH})
        self.assertEqual(behind.shelves()["feat"].files(), {"lock/a": "1", "src/a": "1", "wish": WISH})
        # Where the chooser makes nothing, nothing is beneath lock behind it; what else stands does stay.
        for text in ("no wish", "want none 1\n", ""):
            told = STAGE.after([("edit", "feat", [("put", "wish", text), ("put", "lock/y/z", "")]), ("choose", "flat")])
            self.assertEqual(told.shelves()["feat"].files(), {"src/a": "1", "wish": text})

    def test_choose_beside_a_file_lock(self):
        lock = ("edit", "main", [("put", "lock", "")])
        self.assertEqual(raised(BadDeed, lambda: STAGE.after([lock, ("choose", "home")])).index, 1)
        none = ("edit", "main", [("put", "wish", "")])
        behind = STAGE.after([lock, none, ("choose", "home")])
        self.assertEqual(behind.shelves()["main"].files(), {"lock": "", "src/a": "0", "wish": ""})

    def test_choose_beside_a_lock_in_the_store(self):
        lock = ("edit", "store", [("put", "lock/b", "1")])
        self.assertEqual(raised(BadDeed, lambda: STAGE.after([lock, ("choose", "home")])).index, 1)

    def test_build_and_lose(self):
        self.assertEqual(STAGE.after([("build", "home"), ("lose", "c"), ("lose", "d"), ("build", "hut")]), STAGE)
        self.assertEqual(STAGE.after([]), STAGE)
        self.assertEqual(STAGE.after(()), STAGE)

    def test_what_gives_shelves_a_first_name_in_common(self):
        for deed in [("edit", "store", [("put", "src/b", "")]), ("edit", "main", [("put", "index", "")]),
                     ("copy", "store", "feat"), ("move", "home", 1, "feat"), ("move", "hut", 0, "home"),
                     ("edit", "void", [("put", "a", "")]), ("copy", "void", "main"), ("move", "hut", 1, "hut")]:
            self.assertEqual(raised(BadDeed, lambda: STAGE.after([("build", "home"), deed])).index, 1)
        self.assertEqual(STAGE.after([("move", "hut", 0, "store")]).sources("hut"), Tree(ROWS))

    def test_bad_deeds(self):
        bad = odd_things() + [("edit", "main"), ("edit", "main", 7), ("edit", "main", [("put", "a")]), ("edit", "none", []),
                              ("edit", "home", []), ("edit", "main", [("drop", "none")]), ("copy", "main"),
                              ("copy", "main", "none"), ("copy", "none", "main"), ("move", "home", 0, "none"),
                              ("move", "none", 0, "main"), ("move", "home", True, "store"), ("move", "home", 2, "store"),
                              ("move", "home", "0", "main"), ("choose", "none"), ("choose", "home", "home"),
                              ("choose",), ("build", "main"), ("build",), ("lose", "home"), ("lose", "e"), ("lose",),
                              ("take", "home"), ("edit", "main", [("put", "src/a/b", "")]), (["build"], "home"),
                              ("take", "home", 0, "main"), ("copy", "home", 0, "main"), ("move", "home", 0, ["main"]),
                              ("move", "home", 0), ("move", ["home"], 0, "main"), ("build", ["home"]), ("lose", {}),
                              ("choose", []), ("edit", ["main"], []), ("copy", "main", ["feat"]), ("take", "main", "feat")]
        for thing in bad:
            for call in (STAGE.after, lambda history: moments(STAGE, history)):
                self.assertEqual(raised(BadDeed, lambda: call([("build", "home"), thing, 7])).index, 1)
        for history in (None, 7, "", {}, ("build", "home")):
            for call in (STAGE.after, lambda told: moments(STAGE, told)):
                self.assertEqual(raised(BadDeed, lambda: call(history)).index, 0)

    def test_moments(self):
        edit = ("edit", "main", [("put", "src/a", "9")])
        told = moments(STAGE, [("build", "home"), edit, ("lose", "c"), ("build", "home"), ["build", "flat"]])
        self.assertEqual([(index, house) for index, house, _ in told], [(0, "home"), (3, "home"), (4, "flat")])
        self.assertEqual([sources.files()["src/a"] for _, _, sources in told], ["0", "9", "1"])
        self.assertEqual(told[2][2], STAGE.sources("flat"))
        self.assertEqual(moments(stage=STAGE, history=[edit]), [])

    def test_each_choice_is_by_the_sources_there(self):
        release = ("edit", "store", [("put", "index/a/3", "")])
        wish = ("edit", "main", [("put", "wish", "want b all\n")])
        row = [("choose", "home"), release, ("choose", "home"), wish, ("choose", "home"), ("copy", "store", "late"), ("choose", "home")]
        locks = [{path: text for path, text in STAGE.after(row[:k]).shelves()["main"].files().items() if path.startswith("lock/")}
                 for k in (1, 3, 5, 7)]
        self.assertEqual(locks, [{"lock/a": "2", "lock/b": "3"}, {"lock/a": "3"}, {"lock/b": "3"}, {}])
        deeds = [("choose", "home"), release, ("choose", "flat"), ("copy", "late", "store"), wish]
        found = [row[0] for row in branches.rows_of_stages(STAGE, deeds, [])]
        self.assertEqual(table(STAGE, deeds), found)
        self.assertGreater(len(found), 20)

    def test_choices_are_the_choosers(self):
        for seed in range(40):
            chance = random.Random(seed)
            files = {path: text for path, text in ROWS.items() if chance.random() < 0.7}
            stage = Stage({"w": Tree({"wish": WISH, "lock/q": "1"}), "s": Tree(files)}, {"h": ("w", "s", "c")})
            made = chosen(stage.sources("h")).made
            behind = stage.after([("choose", "h")]).shelves()["w"].files()
            self.assertEqual(behind, {"wish": WISH, **{"lock/" + path: text for path, text in made}})


class MannersTest(unittest.TestCase):
    def test_keeps_to(self):
        manners = {"p": (["src/a", "lock/r"], ["src/**", "got/@r/*", "q"]), "q": ((), ())}
        self.assertTrue(keeps_to(manners, "p", Run([read("src/a", "0"), read("lock/r", None)], "")))
        own = [read("src/a", "0"), read("lock/r", "x")]
        for more in [[read("src/b", None)], [(("list", "src"), ("a",))], [read("got/x/f", "")], [(("list", "got/x/f"), None)],
                     [read("q", None)], [(("list", "q"), ("x",))]]:
            self.assertTrue(keeps_to(manners, "p", Run([*own, *more], "", [("any", "")])))
        for more in [[read("got/y/f", "")], [read("got/x", None)], [read("q/x", "")], [read("other", "")]]:
            self.assertFalse(keeps_to(manners, "p", Run([*own, *more], "")))
        # The firsts come first, all of them, in their order.
        for sights in [[], own[:1], own[::-1], [own[0], read("src/b", ""), own[1]], [(("list", "src/a"), None), own[1]]]:
            self.assertFalse(keeps_to(manners, "p", Run(sights, "")))
        self.assertTrue(keeps_to(manners, "q", Run([], "")))
        self.assertFalse(keeps_to(manners, "q", Run([read("a", "")], "")))

    def test_texts_that_are_no_names(self):
        manners = {"p": (["lock/r"], ["got/@r", "got/a/@r/**"])}
        for text in (None, "", "A", "a/b", "*", "**", "@r", "abcdefghi"):
            self.assertFalse(keeps_to(manners, "p", Run([read("lock/r", text), read("got/a", "")], "")))
        self.assertTrue(keeps_to(manners, "p", Run([read("lock/r", "a"), read("got/a/a/b", "")], "")))

    def test_no_step(self):
        manners = {"p": ([], [])}
        for thing in odd_things() + ["q", "lock"]:
            self.assertIs(raised(NoStep, lambda: keeps_to(manners, thing, Run([], ""))).name, thing)

    def test_bad_manners(self):
        bad = [(1,), ("", []), ([], ""), ([], [], []), (["A"], []), (["a", "a"], []), ([7], []), ([["a"]], []), ([], ["*"]),
               ([], ["**/a"]), ([], ["a/***"]), ([], ["@r/a"]), ([], ["a/@r"]), (["lock/s"], ["a/@r"]), (["r"], ["a/@r"]),
               (["lock/r/x"], ["a/@r"]), ([], ["a//b"]), ([], [7]), ([], ["a/b/c/d/e/f/g"]), (["lock/r"], ["a/@r@r"]),
               (["p"], []), (["p/x"], []), ([], ["p/*"]), ([], ["p"]), (["lock/r"], ["a/@"])]
        for manner in odd_things() + bad:
            for first in ({}, {"q": ([], [])}):
                manners = {**first, "p": manner, "C": 7}
                self.assertEqual(raised(BadManner, lambda: keeps_to(manners, "none", None)).name, "p")
        for name in (7, "A", "lock", None, ("a",), "a/b"):
            self.assertEqual(raised(BadManner, lambda: keeps_to({"p": ([], []), name: ([], [])}, "p", None)).name, name)
        for thing in odd_things():
            if not isinstance(thing, dict):
                self.assertIs(raised(BadManner, lambda: keeps_to(thing, "p", None)).name, thing)
        self.assertTrue(keeps_to({"p": (["lock/r"], ["a/@r/@r"])}, "p", Run([read("lock/r", "")], "")))
        self.assertTrue(keeps_to({"p": ([], ["a", "a"])}, "p", Run([], "")))

    def test_rings(self):
        ring = {"a": ([], ["b/*"]), "b": (["c/x"], []), "c": (["src"], ["d", "b"]), "d": ([], [])}
        self.assertEqual(raised(BadManner, lambda: keeps_to(ring, "a", None)).name, "b")
        self.assertEqual(raised(BadManner, lambda: keeps_to(dict(reversed(ring.items())), "a", None)).name, "c")
        # A wrong one comes ahead of a ring, wherever it stands.
        self.assertEqual(raised(BadManner, lambda: keeps_to({**ring, "e": 7}, "a", None)).name, "e")
        free = {**ring, "c": (["src"], ["d", "bb"])}
        self.assertTrue(keeps_to(free, "d", Run([], "")))


class TablesTest(unittest.TestCase):
    def test_order(self):
        deeds = [("edit", "main", [("put", "src/a", "1")]), ("edit", "main", [("put", "b", "1")]),
                 ("edit", "main", [("drop", "b")])]
        told = table(STAGE, deeds)
        texts = [(one.shelves()["main"].files()["src/a"], "b" in one.shelves()["main"]) for one in told]
        self.assertEqual(texts, [("0", False), ("1", False), ("0", True), ("1", True)])
        self.assertEqual(table(stage=STAGE, deeds=[]), [STAGE])

    def test_files_of_steps_are_none_of_its_matter(self):
        self.assertEqual(len(table(STAGE, [("edit", "main", [("put", "lib/x", "")])])), 2)

    def test_small_worlds(self):
        for seed in range(60):
            chance = random.Random(seed)
            stage, deeds = branches.some_stage(chance), branches.some_deeds(chance)
            told = table(stage, deeds)
            if len(told) > 12:
                continue
            self.assertEqual(told, [row[0] for row in branches.rows_of_stages(stage, deeds, [])])
            self.assertTrue(is_table(stage, deeds, told))
            self.assertTrue(is_table(stage, deeds, tuple(told[::-1])))
            self.assertFalse(is_table(stage, deeds, told + told[:1]))
            further = table(told[-1].after([("edit", "main", [("put", "k", "")])]), deeds)
            self.assertTrue(is_table(stage, deeds, told + [one for one in further if one not in told]))
            for k in range(len(told)):
                self.assertFalse(is_table(stage, deeds, told[:k] + told[k + 1:]))

    def test_is_table_of_any_object(self):
        for thing in odd_things():
            self.assertFalse(is_table(STAGE, [], thing))
            self.assertFalse(is_table(STAGE, [], [STAGE, thing]))
        self.assertTrue(is_table(STAGE, [], [STAGE]))
        self.assertTrue(is_table(STAGE, [("edit", "main", [])], [STAGE, Stage({}, {})]))

    def test_bad_deeds(self):
        for call in (table, lambda stage, deeds: is_table(stage, deeds, 7)):
            for thing in odd_things() + [("build", "home"), ("lose", "c"), ("edit", "none", []), ("choose", "main")]:
                self.assertEqual(raised(BadDeed, lambda: call(STAGE, [("choose", "home"), thing])).index, 1)
            for deeds in (None, 7, "", {}):
                self.assertEqual(raised(BadDeed, lambda: call(STAGE, deeds)).index, 0)

    def test_many_stages(self):
        edits = [("edit", "main", [("put", f"f{k}", "1")]) for k in range(8)]
        self.assertEqual(len(table(STAGE, edits)), 256)


if __name__ == "__main__":
    unittest.main()
