"""The chooser (7.9)."""

import random
import time
import unittest

from noteshold.choices import first
from noteshold.choosing import chosen
from noteshold.index import Index, Row, index_of, wish_text
from noteshold.steps import Run
from noteshold.trees import Tree
from noteshold.versions import Range
from tests.packages import some_packages

ALL = Range([(1, 20)])
WISH = ("read", "wish")


def tree_with(index, wishes, more=None):
    return Tree({**index.files(), "wish": wish_text(wishes), **(more or {})})


def run_there(tree):
    """The run of the chooser, as the document tells its looks, where wish is a text of wishes."""
    wishes = []
    for line in tree.files()["wish"].splitlines():
        words = line.split(" ")
        wishes.append((words[1], Range.read(words[2]), words[4:]))
    looks, row, seen = [WISH], [], {}
    for package, _, _ in wishes:
        if package not in row:
            row.append(package)
    for package in row:
        looks.append(("list", "index/" + package))
        marks = tree.answer(looks[-1]) or ()
        for version in range(20, 0, -1):
            if str(version) in marks:
                looks.append(("read", f"index/{package}/{version}"))
                stands = index_of(Tree({looks[-1][1]: tree.answer(looks[-1])}))
                if len(stands):
                    seen[package, version] = stands[package, version]
                    for _, options, _ in stands[package, version].needs:
                        row.extend(other for other, _ in options if other not in row)
    choice = first(Index(seen), wishes)
    sights = [(look, tree.answer(look)) for look in looks]
    if choice is None:
        return Run(sights, "none")
    return Run(sights, "right", [(package, str(version)) for package, version in choice.items()])


class ChooserTest(unittest.TestCase):
    def test_odd(self):
        for files, text in [({}, None), ({"index/a/1": ""}, None), ({"wish/a": ""}, None), ({"wish": "x"}, "x"),
                            ({"wish": "want a all"}, "want a all"), ({"wish": "want a all\n\n"}, "want a all\n\n"),
                            ({"wish": "want a\n", "index/a/1": ""}, "want a\n")]:
            self.assertEqual(chosen(tree=Tree(files)), Run([(WISH, text)], "odd"))

    def test_no_wishes(self):
        self.assertEqual(chosen(Tree({"wish": "", "index/a/1": ""})), Run([(WISH, "")], "right"))

    def test_none(self):
        run = chosen(Tree({"wish": "want a all\n"}))
        self.assertEqual(run, Run([(WISH, "want a all\n"), (("list", "index/a"), None)], "none"))

    def test_order_of_looks(self):
        need = Row(needs=[(None, [("d", ALL), ("b", ALL)], []), (None, [("c", ALL)], [])])
        index = Index({("a", 2): Row(needs=[(None, [("c", ALL)], [])]), ("a", 10): need, ("b", 1): Row(), ("c", 3): Row()})
        wishes = [("b", ALL, []), ("a", ALL, []), ("b", ALL, [])]
        more = {"index/a/3": "no row", "index/a/x": "", "index/a/04": "", "index/a/21": "", "index/a/4/5": "",
                "index/c/1": "need e all", "index/z/1": ""}
        tree = tree_with(index, wishes, more)
        run = chosen(tree)
        self.assertEqual([look for look, _ in run.sights], [
            WISH, ("list", "index/b"), ("read", "index/b/1"), ("list", "index/a"), ("read", "index/a/10"),
            ("read", "index/a/3"), ("read", "index/a/2"), ("list", "index/d"), ("list", "index/c"), ("read", "index/c/3"),
            ("read", "index/c/1")])
        self.assertEqual((run.outcome, run.made), ("right", (("a", "10"), ("b", "1"), ("c", "3"))))
        self.assertTrue(run.holds(tree))

    def test_runs_and_first_of_all_that_stands(self):
        chance = random.Random(5)
        found = {}
        for seed in range(300):
            index, wishes = some_packages(seed, 3, 3)
            tree = tree_with(index, wishes, {"index/b/5": "no row"} if chance.random() < 0.3 else {})
            run = chosen(tree)
            self.assertEqual(run, run_there(tree))
            choice = first(index_of(tree), wishes)
            self.assertEqual(run.outcome, "none" if choice is None else "right")
            self.assertEqual(dict(run.made), {name: str(version) for name, version in (choice or {}).items()})
            found[run.outcome] = found.get(run.outcome, 0) + 1
        self.assertGreater(min(found.values()), 30)

    def test_any_versions_in_time(self):
        start = time.monotonic()
        names = "abcdef"
        rows = {}
        for place, name in enumerate(names):
            others = [names[(place + k) % 6] for k in (2, 3, 4, 5)]
            for version in range(1, 21):
                spans = Range([(version % 5 + 1, version % 7 + 8)])
                rows[name, version] = Row(needs=[(None, [(other, ALL)], []) for other in others],
                                          clashes=[(other, spans) for other in others])
        run = chosen(tree_with(Index(rows), [(name, ALL, []) for name in names[:4]]))
        self.assertEqual(len(run), 127)
        self.assertLess(time.monotonic() - start, 10)


if __name__ == "__main__":
    unittest.main()
