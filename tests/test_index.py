"""Rows, indexes, wishes and their texts (7.2 to 7.4)."""

import itertools
import unittest

from noteshold.errors import BadPlace, BadRow, BadText, BadWish
from noteshold.index import Index, Row, index_of, wish_read, wish_text
from noteshold.trees import Tree
from noteshold.versions import Range
from tests.worlds import odd_things

ALL, LOW = Range([(1, 20)]), Range([(1, 2)])
FULL = Row(["x", "y"], [("x", [("a", LOW)], ["p", "q"]), (None, [["or", ALL], ("with", Range([]))], ())],
           [("z", Range([(20, 20)])), ["z", LOW]])
FULL_TEXT = ("feature x\nfeature y\nwhen x need a 1-2 with p q\nneed or all or with none\nclash z 20\nclash z 1-2\n")


def no_options():
    return odd_things() + [("a",), ("A", ALL), ("a", "all"), ("a", ALL, ALL), (1, ALL), ("a", None), ("a", (1, 2))]


class RowTest(unittest.TestCase):
    def wrong(self, kind, *told):
        with self.assertRaises(BadRow) as caught:
            Row(*told)
        self.assertEqual(caught.exception.kind, kind)

    def test_attributes(self):
        self.assertEqual(FULL.features, ("x", "y"))
        needs = (("x", (("a", LOW),), ("p", "q")), (None, (("or", ALL), ("with", Range([]))), ()))
        self.assertEqual(FULL.needs, needs)
        self.assertEqual(FULL.clashes, (("z", Range([(20, 20)])), ("z", LOW)))
        self.assertIs(FULL.needs[0][1][0][1], LOW)
        row = Row()
        self.assertEqual((row.features, row.needs, row.clashes), ((), (), ()))
        self.assertEqual(Row(features=["x"], needs=[], clashes=[]), Row(("x",)))

    def test_bad_features(self):
        for thing in odd_things():
            if thing not in ([], (), ["read"], ("read", "a", "b")):
                self.wrong("features", thing, 0, 0)
            if thing != "read":
                self.wrong("features", ["x", thing])
        self.wrong("features", ["x", "y", "x"], 0, 0)

    def test_bad_needs(self):
        good = [("a", ALL)]
        for thing in odd_things():
            if thing not in ([], ()):
                self.wrong("needs", ["x"], thing, 0)
                self.wrong("needs", ["x"], [("x", thing, ())])
            if thing not in ([], (), ["read"], ("read", "a", "b")):
                self.wrong("needs", ["x"], [("x", good, thing)])
            self.wrong("needs", ["x"], [("x", good, ()), thing])
            if thing is not None:
                self.wrong("needs", ["x"], [(thing, good, ())])
            if thing != "read":
                self.wrong("needs", ["x"], [("x", good, ["p", thing])])
        for option in no_options():
            self.wrong("needs", [], [(None, [option], ())])
        for need in [(None, [], ()), (None, good), (None, good, (), ()), ("y", good, ()), (None, good, ["p", "p"]),
                     (None, [("a", ALL), ("a", LOW)], ()), (None, [("a", ALL), ("b", LOW)], ["p"])]:
            self.wrong("needs", ["x"], [need], 0)

    def test_bad_clashes(self):
        for thing in odd_things():
            if thing not in ([], ()):
                self.wrong("clashes", [], [], thing)
        for option in no_options():
            self.wrong("clashes", [], [], [("a", ALL), option])

    def test_equal(self):
        self.assertTrue(FULL == Row.read(FULL_TEXT))
        parts = (["x"], [(None, [("a", LOW)], [])], [("b", ALL)])
        rows = [Row(*[part if keep else () for part, keep in zip(parts, many)])
                for many in itertools.product((False, True), repeat=3)]
        for one, other in itertools.product(rows, rows):
            self.assertEqual(one == other, one.text() == other.text())
            self.assertEqual(one != other, one.text() != other.text())
        for thing in odd_things():
            if not isinstance(thing, Row):
                self.assertFalse(Row() == thing)

    def test_later_changes(self):
        features, asks, options = ["x"], ["p"], [["a", LOW]]
        needs, clashes = [[None, options, asks]], [["b", ALL]]
        row = Row(features, needs, clashes)
        told = row.text()
        features.append("y")
        asks.append("q")
        options[0][0] = "c"
        options.append(0)
        needs[0][0] = "x"
        clashes.append(0)
        self.assertEqual(row.text(), told)


class RowTextTest(unittest.TestCase):
    def wrong(self, text, line):
        with self.assertRaises(BadText) as caught:
            Row.read(text)
        self.assertEqual(caught.exception.line, line, text)

    def test_text(self):
        self.assertEqual(FULL.text(), FULL_TEXT)
        self.assertEqual(Row().text(), "")
        self.assertEqual(Row.read(text=""), Row())
        for row in (FULL, Row(["x"]), Row([], [(None, [("a", LOW)], ["p"])]), Row(clashes=[("a", ALL)])):
            self.assertEqual(Row.read(row.text()), row)
            self.assertEqual(Row.read(row.text()).text(), row.text())

    def test_words_that_are_names_too(self):
        for row in (Row(["when", "need"], [("when", [("or", ALL), ("need", LOW)], [])], [("clash", ALL)]),
                    Row(["feature", "clash"], [(None, [("a", LOW), ("or", ALL), ("c", LOW), ("when", ALL)], [])]),
                    Row(["with"], [("with", [("with", ALL)], ["with", "or"]), (None, [("all", Range([]))], [])])):
            self.assertEqual(Row.read(row.text()), row)

    def test_each_line_in_its_place(self):
        lines = FULL_TEXT.splitlines()
        for k in range(len(lines)):
            begun = "".join(line + "\n" for line in lines[:k])
            self.assertEqual(Row.read(begun).text(), begun)
            self.wrong(begun + lines[k], k + 1)
            for other in ["", " ", "feature", "feature x y", "feature A", "need", "need a", "need a 1 b", "need a 1 or",
                          "need a 1 with", "need a 1 with p p", "need a 1 or b 2 with p", "need a 1 or a 2", "clash a",
                          "clash a 1 2", "clash A 1", "need a 1-1", "need a 2-1", "need a 1,2", "when x", "when u need a 1",
                          "when x feature y", "when x clash a 1", " need a 1", "need  a 1", "need a 1 ", "want a 1",
                          "when need a 1", "need a 1 or b", "need a 1 with A", "when x when x need a 1", "need a 01",
                          "need a 1 or b 2 c", "need a 1 or b 2 or", "need a 1 b 2 or c 3", "need a 1 or b 2 3"]:
                self.wrong(begun + other + "\n" + "".join(line + "\n" for line in lines[k:]), k + 1)

    def test_order_of_lines(self):
        self.wrong("need a 1\nfeature x\n", 2)
        self.wrong("clash a 1\nneed a 1\n", 2)
        self.wrong("clash a 1\nfeature x\n", 2)
        self.wrong("feature x\nfeature x\n", 2)
        self.wrong("when x need a 1\nfeature x\n", 1)
        self.wrong("feature x\n\n", 2)
        self.wrong("\n", 1)
        self.wrong("feature x\nfeature", 2)
        self.wrong("bad\nfeature x", 1)


class IndexTest(unittest.TestCase):
    def setUp(self):
        self.rows = {("lib", 10): FULL, ("app", 2): Row(["x"]), ("lib", 9): Row()}
        self.index = Index(self.rows)

    def test_what_is_told(self):
        self.assertEqual(self.index.packages(), ["app", "lib"])
        self.assertEqual([self.index.versions(name) for name in ("app", "lib", "none")], [[2], [9, 10], []])
        self.assertEqual(self.index.versions(package="lib"), [9, 10])
        self.assertEqual((len(self.index), len(Index()), len(Index(rows={}))), (3, 0, 0))
        self.assertEqual((Index().packages(), Index(None).files()), ([], {}))

    def test_rows(self):
        self.assertEqual(self.index[("lib", 10)], FULL)
        self.assertEqual(self.index["lib", 9], Row())
        self.assertEqual(self.index[["app", 2]], Row(["x"]))
        self.assertIsNone(self.index["app", 3])
        with self.assertRaises(TypeError):
            list(self.index)
        for place in odd_things() + [("lib", 0), ("lib", 21), ("lib", "9"), ("lib", True), ("Lib", 9), ("lib",), "lib",
                                     ("lib", 9, 9), (9, "lib")]:
            with self.assertRaises(BadPlace) as caught:
                self.index[place]
            self.assertIs(caught.exception.place, place)

    def test_bad_places(self):
        wrong = [None, 1, "lib", ("lib",), ("lib", 0), ("lib", 21), ("lib", "1"), ("LIB", 1), (("lib", 1),), ("lib", True)]
        for place in wrong:
            with self.assertRaises(BadPlace) as caught:
                Index({("lib", 1): Row(), place: Row(), ("lib", 30): 0} if place != ("lib", True) else {place: Row()})
            self.assertEqual(caught.exception.place, place)
        for row in odd_things():
            if not isinstance(row, Row):
                with self.assertRaises(BadPlace) as caught:
                    Index({("lib", 1): Row(), ("lib", 2): row, ("lib", 30): Row()})
                self.assertEqual(caught.exception.place, ("lib", 2))

    def test_put_and_without(self):
        told = self.index.put(("app", 1), FULL)
        self.assertEqual((len(told), told["app", 1], len(self.index)), (4, FULL, 3))
        self.assertEqual(self.index.put(place=["lib", 9], row=FULL)["lib", 9], FULL)
        self.assertEqual(self.index.without(("lib", 9)).versions("lib"), [10])
        self.assertEqual(self.index.without(place=["lib", 1]), self.index)
        self.assertEqual(told.without(["app", 1]), self.index)
        for place in odd_things() + [("lib", 0), ("lib", True)]:
            for call in (lambda: self.index.put(place, Row()), lambda: self.index.without(place)):
                with self.assertRaises(BadPlace) as caught:
                    call()
                self.assertIs(caught.exception.place, place)
        for row in odd_things():
            if not isinstance(row, Row):
                place = ["lib", 1]
                with self.assertRaises(BadPlace) as caught:
                    self.index.put(place, row)
                self.assertIs(caught.exception.place, place)

    def test_equal(self):
        turned = Index({place: self.rows[place] for place in reversed(list(self.rows))})
        self.assertTrue(self.index == turned)
        self.assertTrue(self.index != turned.without(("app", 2)))
        self.assertTrue(self.index != turned.put(("app", 2), Row()))
        for thing in odd_things() + [self.rows]:
            if not isinstance(thing, Index):
                self.assertFalse(self.index == thing)
                self.assertFalse(Index() == thing)

    def test_later_changes(self):
        self.rows["app", 5] = Row()
        self.assertEqual(self.index.versions("app"), [2])

    def test_files(self):
        told = {"index/app/2": "feature x\n", "index/lib/10": FULL_TEXT, "index/lib/9": ""}
        self.assertEqual(list(self.index.files().items()), list(told.items()))

    def test_index_of(self):
        self.assertEqual(index_of(tree=Tree(self.index.files())), self.index)
        others = {"index/app/02": "", "index/app/21": "", "index/app/0": "", "index/app/x": "", "index/app/3": "odd\n",
                  "index/app/4": "feature x", "index/lib/1/2": "", "index/z": "", "app/1": "", "other/app/1": "",
                  "x/index/app/1": ""}
        self.assertEqual(index_of(Tree({**self.index.files(), **others})), self.index)
        self.assertEqual(index_of(Tree()), Index())


class WishTest(unittest.TestCase):
    def setUp(self):
        self.wishes = [["app", ALL, ["x", "y"]], ("lib", LOW, ()), ("app", Range([]), ("with",))]
        self.text = "want app all with x y\nwant lib 1-2\nwant app none with with\n"

    def test_text(self):
        self.assertEqual(wish_text(self.wishes), self.text)
        self.assertEqual(wish_text(wishes=()), "")
        told = wish_read(text=self.text)
        self.assertEqual(told, [("app", ALL, ("x", "y")), ("lib", LOW, ()), ("app", Range([]), ("with",))])
        self.assertTrue(all(isinstance(wish, tuple) and isinstance(wish[2], tuple) for wish in told))
        self.assertEqual(wish_read(""), [])

    def test_bad_wishes(self):
        for thing in odd_things() + [("app", ALL), ("app", ALL, ["x", "x"]), ("App", ALL, []), ("app", "all", []),
                                     ("app", ALL, "x"), ("app", ALL, ["X"]), ("app", ALL, [], 1), ("app", ALL, None)]:
            with self.assertRaises(BadWish) as caught:
                wish_text([("app", ALL, []), thing, 0])
            self.assertEqual(caught.exception.index, 1)
        for wishes in odd_things():
            if not isinstance(wishes, (list, tuple)):
                with self.assertRaises(BadWish) as caught:
                    wish_text(wishes)
                self.assertEqual(caught.exception.index, 0)

    def test_bad_texts(self):
        lines = self.text.splitlines()
        for k in range(len(lines)):
            begun = "".join(line + "\n" for line in lines[:k])
            rest = "".join(line + "\n" for line in lines[k:])
            for other in ["", " ", "want", "want app", "want app 1-1", "want App all", "want app all with", "want app all x",
                          "want app all with x x", "want app all or lib all", "need app all", " want app all",
                          "want app  all", "want app all ", "want app all with x ", "want all app"]:
                with self.assertRaises(BadText) as caught:
                    wish_read(begun + other + "\n" + rest)
                self.assertEqual(caught.exception.line, k + 1, other)
            with self.assertRaises(BadText) as caught:
                wish_read(begun + lines[k])
            self.assertEqual(caught.exception.line, k + 1)


if __name__ == "__main__":
    unittest.main()
