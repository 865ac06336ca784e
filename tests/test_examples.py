"""The examples of section 14."""

import unittest

from noteshold.builds import build, together
from noteshold.choices import choices, first
from noteshold.index import Index, Row
from noteshold.reasons import reasons
from noteshold.rules import Rule
from noteshold.stages import Stage
from noteshold.steps import Step
from noteshold.trees import Tree, touched
from noteshold.versions import Range
from noteshold.works import Work
from noteshold.workshop import Workshop


class ExamplesTest(unittest.TestCase):
    def test_trees(self):
        one = Tree({"a/b": "1", "c": ""})
        told = [one.answer(("list", "a")), one.answer(("read", "a")), touched(one, one.after([("put", "a/d", "2")]))]
        self.assertEqual(told, [("b",), None, [("read", "a/d"), ("list", "a")]])

    def test_steps(self):
        lib = Step(("ask", ("read", "src"), [(None, ("end", "none", []))], ("end", "ok", [("x", "1")])))
        run = lib.run(Tree({"src": "s"}))
        self.assertEqual([run.sights, run.outcome, run.made], [((("read", "src"), "s"),), "ok", (("x", "1"),)])

    def test_rows(self):
        old = Row(needs=[(None, [("lib", Range([(1, 2)]))], [])])
        new = Row(needs=[(None, [("lib", Range([(3, 3)]))], [])])
        index = Index({("app", 1): old, ("app", 2): new, ("lib", 2): Row()})
        self.assertEqual(old.text(), "need lib 1-2\n")
        self.assertEqual(index["app", 2].text(), "need lib 3\n")
        wishes = [("app", Range([(1, 20)]), [])]
        told = [first(index, wishes), choices(index, wishes), old.text()]
        self.assertEqual(told, [{"app": 1, "lib": 2}, [{"app": 1, "lib": 2}], "need lib 1-2\n"])
        cells = [("app", 1, 1), ("app", 2, 2), ("app", 3, 20), ("lib", 2, 2), ("lib", 3, 3)]
        self.assertEqual(reasons(index, wishes), [cells])

    def test_builds(self):
        lib = Step(("ask", ("read", "src"), [(None, ("end", "none", []))], ("end", "ok", [("x", "1")])))
        app = Step(("ask", ("read", "lib/x"), [("1", ("end", "good", []))], ("end", "bad", [])))
        work = Work(["app", "lib"])
        made = build(work, {"app": app, "lib": lib}, Tree({"src": "s"}), ["app"])
        told = [list(made.runs), made.order(), made.runs["app"].outcome, together(work, Tree({"src": "t"}), made.runs)]
        self.assertEqual(told, [["app", "lib"], ["lib", "app"], "good", ("untrue", "lib", 0)])

    def test_workshop(self):
        lib = Step(("ask", ("read", "src"), [(None, ("end", "none", []))], ("end", "ok", [("x", "1")])))
        app = Step(("ask", ("read", "lib/x"), [("1", ("end", "good", []))], ("end", "bad", [])))
        stage = Stage({"main": Tree({"src": "s"}), "store": Tree()}, {"home": ("main", "store", "c")})
        shop = Workshop(stage, {"lib": lib, "app": app}, Rule([("contents", None)]))
        told = [shop.do(("build", "home")), shop.do(("edit", "main", [("put", "src", "t")])), shop.do(("build", "home"))]
        self.assertEqual([told, shop.is_clean("home")],
                         [[[("lib", "ran", "ok"), ("app", "ran", "good")], None, [("lib", "ran", "ok"), ("app", "left", "good")]],
                          True])


if __name__ == "__main__":
    unittest.main()
