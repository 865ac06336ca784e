"""Works (5.1)."""

import unittest

from noteshold.errors import BadLook, BadName, BadPath, BadSources, Blocked
from noteshold.trees import Tree
from noteshold.works import Work
from tests.worlds import odd_things


class WorkTest(unittest.TestCase):
    def test_names(self):
        work = Work(["b", "a", "lock"])
        self.assertEqual((work.names(), len(work)), (["b", "a", "lock"], 3))
        self.assertEqual((Work(names=()).names(), len(Work([]))), ([], 0))
        self.assertTrue("a" in work)
        for thing in odd_things() + ["c", "a/b"]:
            self.assertFalse(thing in work)

    def test_bad_names(self):
        for thing in odd_things():
            if thing != "read":
                with self.assertRaises(BadName) as caught:
                    Work(["a", thing, "A"])
                self.assertIs(caught.exception.name, thing)
            if not isinstance(thing, (list, tuple)):
                with self.assertRaises(BadName) as caught:
                    Work(thing)
                self.assertIs(caught.exception.name, thing)
        for names, name in [(["a", "b", "a", "A"], "a"), (["a", "b/c"], "b/c"), ([["a"], "a"], ["a"])]:
            with self.assertRaises(BadName) as caught:
                Work(names)
            self.assertEqual(caught.exception.name, name)

    def test_equal(self):
        self.assertTrue(Work(["a", "b"]) == Work(("a", "b")))
        self.assertTrue(Work(["a", "b"]) != Work(["b", "a"]))
        for thing in odd_things():
            if not isinstance(thing, Work):
                self.assertFalse(Work(["a"]) == thing)
                self.assertFalse(Work([]) == thing)

    def test_later_changes(self):
        names = ["a"]
        work = Work(names)
        names.append("b")
        work.names().append("c")
        self.assertEqual(work.names(), ["a"])

    def test_need(self):
        work = Work(["app", "lib"])
        for look, name in [(("read", "app/x"), "app"), (("read", "app"), None), (("list", "app"), "app"),
                           (["list", "lib/x/y"], "lib"), (("read", "src/app"), None), (("list", "src"), None),
                           (("read", "lib/x/y"), "lib"), (("list", "ap"), None), (("read", "x"), None)]:
            self.assertEqual(work.need(look), name)
        self.assertEqual(work.need(look=("list", "app")), "app")
        for look in odd_things():
            with self.assertRaises(BadLook) as caught:
                work.need(look)
            self.assertIs(caught.exception.look, look)


class WorkTreeTest(unittest.TestCase):
    def setUp(self):
        self.work = Work(["lib", "app"])

    def test_tree(self):
        sources = Tree({"src/a": "1", "x": "2"})
        made = {"app": {"y/z": "3"}, "lib": {"y": "4", "w": "5"}}
        told = Tree({"src/a": "1", "x": "2", "app/y/z": "3", "lib/y": "4", "lib/w": "5"})
        self.assertEqual(self.work.tree(sources, made), told)
        self.assertEqual(self.work.tree(sources=sources, made={}), sources)
        self.assertEqual(self.work.tree(sources, {"lib": {}}), sources)
        self.assertEqual(made, {"app": {"y/z": "3"}, "lib": {"y": "4", "w": "5"}})

    def test_bad_sources_ahead_of_all(self):
        for files, path in [({"z": "", "lib/x": "", "app/y": "", "a": ""}, "app/y"), ({"lib": ""}, "lib")]:
            with self.assertRaises(BadSources) as caught:
                self.work.tree(Tree(files), {"X": {"A": 1}})
            self.assertEqual(caught.exception.path, path)

    def test_bad_names(self):
        for thing in [None, 0, True, "", "A", "other", ("lib",), "lib/x"]:
            with self.assertRaises(BadName) as caught:
                self.work.tree(Tree(), {"app": {"A": 1}, thing: {}, "Z": {}})
            self.assertEqual(caught.exception.name, thing)

    def test_what_trees_raise(self):
        for made, path in [({"app": {"B": ""}, "lib": {"x": "", "A": ""}}, "lib/A"), ({"app": {"": ""}}, "app/"),
                           ({"app": {"x": "", "y": None}}, "app/y"), ({"lib": {"a": "", "a/b": "", "C": ""}}, "lib/C")]:
            with self.assertRaises(BadPath) as caught:
                self.work.tree(Tree(), made)
            self.assertEqual(caught.exception.path, path)
        for made, path in [({"app": {"x/y": "", "x": ""}, "lib": {"z": "", "z/z": ""}}, "lib/z/z"),
                           ({"app": {"x/y": "", "x": ""}}, "app/x")]:
            with self.assertRaises(Blocked) as caught:
                self.work.tree(Tree({"s": ""}), made)
            self.assertEqual(caught.exception.path, path)


if __name__ == "__main__":
    unittest.main()
