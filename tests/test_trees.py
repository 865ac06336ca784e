"""Names, paths, trees, looks, changes, touched (3.1 to 3.5)."""

import itertools
import unittest

from noteshold.errors import BadChange, BadLook, BadPath, Blocked
from noteshold.trees import Tree, changes_between, touched
from tests.worlds import odd_things


def tiny_trees():
    """All trees with files of two texts at a, a/a and b."""
    first = [{}, {"a": "0"}, {"a": "1"}, {"a/a": "0"}, {"a/a": "1"}]
    second = [{}, {"b": "0"}, {"b": "1"}]
    return [Tree({**one, **other}) for one, other in itertools.product(first, second)]


class MakeTreesTest(unittest.TestCase):
    def test_no_files(self):
        for tree in (Tree(), Tree(None), Tree({}), Tree(files={})):
            self.assertEqual(tree.files(), {})
            self.assertEqual(len(tree), 0)

    def test_files_ascend(self):
        tree = Tree({"b": "2", "a/z": "1", "a/b/c": "", "a0": "x"})
        self.assertEqual(list(tree.files().items()), [("a/b/c", ""), ("a/z", "1"), ("a0", "x"), ("b", "2")])
        self.assertEqual(len(tree), 4)

    def test_names_and_paths(self):
        for path in ("a", "0", "abcdefgh", "a/bc/d2", "z9/0", "a/b/c/d/e/f/g/h/i"):
            self.assertIn(path, Tree({path: ""}))
        for path in ("", "/", "A", "a/", "/a", "a//b", "a.b", "a b", "abcdefghi", "a/abcdefghi", "a-b", "a\n", "**",
                     "\u00e9", "a\u00b2"):
            with self.assertRaises(BadPath) as caught:
                Tree({path: ""})
            self.assertEqual(caught.exception.path, path)

    def test_first_bad_key_in_order(self):
        with self.assertRaises(BadPath) as caught:
            Tree({"b": "", "X": "", "Y": ""})
        self.assertEqual(caught.exception.path, "X")
        key = ("a", 1)
        with self.assertRaises(BadPath) as caught:
            Tree({"b": "", key: "", "Y": ""})
        self.assertIs(caught.exception.path, key)
        for text in (None, 1, True, [], ("a",), {}, Tree()):
            with self.assertRaises(BadPath) as caught:
                Tree({"a": "", "b": text, "C": ""})
            self.assertEqual(caught.exception.path, "b")

    def test_bad_path_is_ahead_of_blocked(self):
        with self.assertRaises(BadPath) as caught:
            Tree({"a": "", "a/b": "", "X": ""})
        self.assertEqual(caught.exception.path, "X")

    def test_no_dict(self):
        for files in odd_things():
            if files is not None and not isinstance(files, dict):
                with self.assertRaises(BadPath) as caught:
                    Tree(files)
                self.assertIs(caught.exception.path, files)

    def test_blocked(self):
        for paths, blocked in [(("a", "a/b"), "a/b"), (("a/b", "a"), "a"), (("a/b/c/d", "x", "a/b"), "a/b"),
                               (("x", "a", "a/b/c", "x/y"), "a/b/c"), (("a0", "a", "a/b"), "a/b")]:
            with self.assertRaises(Blocked) as caught:
                Tree({path: "" for path in paths})
            self.assertEqual(caught.exception.path, blocked)
        self.assertEqual(len(Tree({"a": "", "a0": "", "ab/c": "", "b/a": ""})), 4)

    def test_files_are_new(self):
        files = {"a": "1"}
        tree = Tree(files)
        files["b"] = "2"
        tree.files()["c"] = "3"
        self.assertEqual(tree.files(), {"a": "1"})
        self.assertEqual(files, {"a": "1", "b": "2"})


class AskTreesTest(unittest.TestCase):
    def setUp(self):
        self.tree = Tree({"a/b": "1", "a/c/d": "2", "a/c/e": "", "a/c0": "3", "x": "4"})

    def test_read(self):
        told = [("a/b", "1"), ("a/c/e", ""), ("a", None), ("a/c", None), ("b", None), ("a/b/c", None), ("x", "4")]
        for path, text in told:
            self.assertEqual(self.tree.answer(("read", path)), text)

    def test_list(self):
        told = [("a", ("b", "c/", "c0")), ("a/c", ("d", "e")), ("x", None), ("y", None), ("a/b", None), ("a/b/c", None)]
        for path, names in told:
            self.assertEqual(self.tree.answer(("list", path)), names)
            self.assertEqual(self.tree.answer(["list", path]), names)
            self.assertEqual(self.tree.answer(look=("list", path)), names)

    def test_bad_looks(self):
        for look in odd_things() + [("write", "a"), ("read", "A"), ("read", None), (["read"], "a"), "ra", {"read": "a"}]:
            with self.assertRaises(BadLook) as caught:
                self.tree.answer(look)
            self.assertIs(caught.exception.look, look)

    def test_part(self):
        self.assertEqual(self.tree.part("a"), Tree({"b": "1", "c/d": "2", "c/e": "", "c0": "3"}))
        self.assertEqual(self.tree.part("a/c"), Tree({"d": "2", "e": ""}))
        for path in ("x", "y", "a/b", "c"):
            self.assertEqual(self.tree.part(path), Tree())
        for path in odd_things():
            if path != "read":
                with self.assertRaises(BadPath) as caught:
                    self.tree.part(path)
                self.assertIs(caught.exception.path, path)

    def test_firsts(self):
        self.assertEqual(self.tree.firsts(), ["a", "x"])
        self.assertEqual(Tree().firsts(), [])

    def test_contains(self):
        self.assertTrue("a/b" in self.tree)
        for thing in ["a", "a/c", "b", *odd_things()]:
            self.assertFalse(thing in self.tree)

    def test_equal(self):
        self.assertTrue(Tree({"a": "1", "b": "2"}) == Tree({"b": "2", "a": "1"}))
        self.assertFalse(Tree({"a": "1"}) == Tree({"a": "2"}))
        self.assertTrue(Tree({"a": "1"}) != Tree({"b": "1"}))
        for thing in [{"a": "1"}, [], None, "a", 0, {}]:
            self.assertFalse(Tree({"a": "1"}) == thing)
            self.assertFalse(Tree() == thing)
            self.assertTrue(Tree() != thing)


class JoinTreesTest(unittest.TestCase):
    def test_both(self):
        one, other = Tree({"a/b": "1"}), Tree({"a/c": "2", "d": "3"})
        self.assertEqual(one | other, Tree({"a/b": "1", "a/c": "2", "d": "3"}))
        self.assertEqual([one.files(), other.files()], [{"a/b": "1"}, {"a/c": "2", "d": "3"}])
        self.assertEqual(Tree() | one, one)
        self.assertEqual(one | Tree(), one)

    def test_blocked(self):
        for one, other, path in [({"a": "1"}, {"a": "1"}, "a"), ({"a": "1"}, {"b": "", "a/c": ""}, "a/c"),
                                 ({"a/b/c": ""}, {"z": "", "a/b": "", "a/a": ""}, "a/b"),
                                 ({"b": "", "c": ""}, {"c": "", "b/d": ""}, "b/d")]:
            with self.assertRaises(Blocked) as caught:
                Tree(one) | Tree(other)
            self.assertEqual(caught.exception.path, path)


class ChangesTest(unittest.TestCase):
    def test_after(self):
        tree = Tree({"a/b": "1", "c": ""})
        told = [("drop", "a/b"), ["put", "a", "2"], ("put", "c", "3"), ("put", "d/e", "")]
        self.assertEqual(tree.after(told), Tree({"a": "2", "c": "3", "d/e": ""}))
        self.assertEqual(tree.after(tuple(told)), tree.after(told))
        self.assertEqual(tree.after([]), tree)
        self.assertEqual(tree.after(changes=()), tree)
        self.assertEqual(tree.files(), {"a/b": "1", "c": ""})

    def test_what_cannot_be_done(self):
        tree = Tree({"a/b": "1", "c": ""})
        for changes, index in [([("drop", "x")], 0), ([("drop", "a")], 0), ([("put", "a", "")], 0),
                               ([("put", "x", ""), ("put", "c/d/e", ""), 0], 1),
                               ([("drop", "c"), ("drop", "c")], 1), ([("put", "a/b/c", "")], 0),
                               ([("put", "x", ""), ("drop", "x"), ("put", "x/y", ""), ("put", "x", "")], 3)]:
            with self.assertRaises(BadChange) as caught:
                tree.after(changes)
            self.assertEqual(caught.exception.index, index)
        self.assertEqual(tree.files(), {"a/b": "1", "c": ""})

    def test_no_changes(self):
        wrong = [("put", "a"), ("put", "a", None), ("put", "A", ""), ("drop", "a", ""), ("drop", "A"), ("drop",),
                 ("lose", "a"), ("put", "a", "b", "c"), "put", {"put": "a"}, (["drop"], "a")]
        for change in odd_things() + wrong:
            with self.assertRaises(BadChange) as caught:
                Tree({"a": "", "b": ""}).after([("drop", "b"), change])
            self.assertEqual(caught.exception.index, 1)

    def test_no_list(self):
        for changes in odd_things():
            if not isinstance(changes, (list, tuple)):
                with self.assertRaises(BadChange) as caught:
                    Tree().after(changes)
                self.assertEqual(caught.exception.index, 0)

    def test_between(self):
        one, other = Tree({"a/b": "1", "c": "", "d": "x"}), Tree({"a": "2", "c": "3", "d": "x", "b": ""})
        told = [("drop", "a/b"), ("put", "a", "2"), ("put", "b", ""), ("put", "c", "3")]
        self.assertEqual(changes_between(one, other), told)
        self.assertEqual(changes_between(one=one, other=one), [])

    def test_between_is_fewest_in_a_small_world(self):
        trees = tiny_trees()
        changes = [("put", path, text) for path in ("a", "a/a", "b") for text in "01"]
        changes += [("drop", path) for path in ("a", "a/a", "b")]
        for start in trees:
            far = {0: [start]}
            met = [start]
            while far[len(far) - 1]:
                row = []
                for tree in far[len(far) - 1]:
                    for change in changes:
                        try:
                            behind = tree.after([change])
                        except BadChange:
                            continue
                        if behind not in met:
                            met.append(behind)
                            row.append(behind)
                far[len(far)] = row
            self.assertEqual(len(met), len(trees))
            for length, row in far.items():
                for goal in row:
                    told = changes_between(start, goal)
                    self.assertEqual(len(told), length)
                    self.assertEqual(start.after(told), goal)


class TouchedTest(unittest.TestCase):
    def test_example(self):
        one = Tree({"a/b": "1", "c": ""})
        other = one.after([("put", "a/d", "2")])
        self.assertEqual(touched(one, other), [("read", "a/d"), ("list", "a")])
        self.assertEqual(touched(one=one, other=one), [])

    def test_file_becomes_folder(self):
        told = touched(Tree({"x/a": "1"}), Tree({"x/a/b": "1"}))
        self.assertEqual(told, [("read", "x/a"), ("read", "x/a/b"), ("list", "x"), ("list", "x/a")])

    def test_all_looks_of_a_small_world(self):
        paths = ["a", "a/a", "a/b", "b", "b/a", "a/a/a"]
        looks = [("read", path) for path in sorted(paths)] + [("list", path) for path in sorted(paths)]
        for one in tiny_trees():
            for other in tiny_trees():
                unlike = [look for look in looks if one.answer(look) != other.answer(look)]
                self.assertEqual(touched(one, other), unlike)


if __name__ == "__main__":
    unittest.main()
