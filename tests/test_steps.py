"""Steps and runs (4.1, 4.2)."""

import itertools
import unittest

from noteshold.errors import Apart, BadEnd, BadSight, BadStep
from noteshold.steps import Run, Step
from noteshold.trees import Tree
from tests.worlds import odd_things, small_sights, small_trees, some_steps

END = ("end", "", [])
READ = ("read", "a")
LIST = ("list", "a")
TREES = small_trees()


def bad_mades():
    """Objects that are no list of made files."""
    lists = [[thing] for thing in odd_things()]
    wrong = [[("a", "1"), ("a", "1")], [("a", ""), ("a/b", "")], [("a/b", ""), ("a0", ""), ("a", "")], [("a", None)],
             [("A", "")], [("a", "", "")], [("a",)], [("a/b/c", ""), ("x", ""), ("a/b/c/d/e", "")], [("a", ""), ("x/y", ""), ("x", "")],
             {"a": "1"}]
    return [thing for thing in odd_things() if thing not in ([], ())] + lists + wrong


class MakeStepsTest(unittest.TestCase):
    def wrong(self, tree, place):
        with self.assertRaises(BadStep) as caught:
            Step(tree)
        self.assertEqual(caught.exception.place, place)
        self.assertIsInstance(caught.exception.place, tuple)

    def test_tree_in_tuples(self):
        step = Step(["ask", ["list", "a"], [[["b", "c/"], ["end", "x", [["z", "1"], ["y", "2"]]]], (None, END)],
                     ["ask", READ, [], END]])
        told = ("ask", LIST, ((("b", "c/"), ("end", "x", (("y", "2"), ("z", "1")))), (None, ("end", "", ()))),
                ("ask", READ, (), ("end", "", ())))
        self.assertEqual(step.tree(), told)
        self.assertEqual(repr(step.tree()), repr(told))
        self.assertEqual(Step(tree=told).tree(), told)

    def test_no_trees(self):
        for thing in odd_things() + [("end",), ("end", ""), ("end", "", [], 1), ("ask", READ, []), ("ask",), "end",
                                     ("ask", READ, [], END, END), ("stop", "", []), ("end", None, []), ("end", 1, []),
                                     ("ask", "a", [], END), ("ask", READ, {}, END), ("ask", READ, None, END)]:
            self.wrong(thing, ())
            self.wrong(("ask", READ, [("1", END)], thing), (1,))
            self.wrong(("ask", READ, [("1", END), (None, thing)], thing), (1,))

    def test_bad_made(self):
        for made in bad_mades():
            self.wrong(("end", "", made), ())
            self.wrong(("ask", READ, [(None, ("end", "", made))], 0), (0,))

    def test_bad_cases(self):
        for case in odd_things() + [("1", END, END), (1, END), (("b",), END), (True, END), ({}, END)]:
            self.wrong(("ask", READ, [(None, END), case], 0), (1,))
        for answer in ["1", (), ("b", "a"), ("a", "a/"), ("A",), 0, False, ("a", 1)]:
            self.wrong(("ask", LIST, [(("b",), END), (answer, END)], END), (1,))
        self.wrong(("ask", LIST, [(("b",), END), (["b"], END)], END), (1,))
        self.wrong(("ask", READ, [(None, END), ("", END), ("1", END), ("", END)], END), (3,))

    def test_looks_above(self):
        self.wrong(("ask", READ, [("1", ("ask", LIST, [], ("ask", ["read", "a"], [], END)))], 0), (0, 0))
        self.wrong(("ask", READ, [("1", END)], ("ask", READ, [], END)), (1,))
        two = ("ask", LIST, [], END)
        self.assertEqual(Step(("ask", READ, [("1", two)], two)).looks(), [READ, LIST])

    def test_first_place(self):
        # A tree ahead of its parts, and a part with all that is in it ahead of the next one.
        bad = ("end", 0, [])
        self.wrong(("ask", READ, 0, bad), ())
        self.wrong(("ask", READ, [("1", ("ask", LIST, [(None, bad)], END)), (0, END)], bad), (0, 0))
        self.wrong(("ask", READ, [("1", ("ask", LIST, [(None, END)], bad)), (0, END)], bad), (0, 1))
        self.wrong(("ask", READ, [("1", END), (0, END)], bad), (1,))
        self.wrong(("ask", READ, [("1", END), ("2", ("ask", LIST, [(None, END), ((), 0)], END))], bad), (1, 1))

    def test_looks(self):
        step = Step(("ask", READ, [("1", ("ask", ("read", "b"), [("2", END)], ("ask", LIST, [], END)))],
                     ("ask", LIST, [(None, ("ask", ("read", "c"), [], END))], ("ask", ("read", "b"), [], END))))
        self.assertEqual(step.looks(), [READ, ("read", "b"), LIST, ("read", "c")])
        self.assertEqual(Step(END).looks(), [])

    def test_equal(self):
        cases = [(None, END), ("1", ("end", "x", [])), ("2", ("ask", LIST, [(None, END), (("b",), END)], END))]
        turned = [(None, END), ("1", ("end", "x", [])), ("2", ("ask", LIST, [(("b",), END), (None, END)], END))]
        steps = [Step(("ask", READ, row, END)) for row in itertools.permutations(cases)]
        steps += [Step(("ask", READ, row, END)) for row in itertools.permutations(turned)]
        for one, other in itertools.product(steps, steps):
            self.assertTrue(one == other)
            self.assertFalse(one != other)
        self.assertNotEqual(steps[0].tree(), steps[1].tree())
        others = [END, ("ask", READ, cases[:2], END), ("ask", LIST, [], END), ("ask", READ, cases, ("end", "x", [])),
                  ("ask", READ, [(None, END), ("1", ("end", "y", [])), cases[2]], END)]
        for tree in others:
            self.assertTrue(Step(tree) != steps[0])
        self.assertFalse(Step(("ask", READ, [(None, END)], END)) == Step(("ask", LIST, [(None, END)], END)))
        for thing in odd_things()[:-5] + [steps[0].tree()]:
            self.assertFalse(steps[0] == thing)
        made = [("end", "", [("a", "1"), ("b", "2")]), ("end", "", [("b", "2"), ("a", "1")])]
        self.assertTrue(Step(made[0]) == Step(made[1]))

    def test_later_changes(self):
        made = [["x", "1"]]
        cases = [[["b"], ["end", "", made]]]
        tree = ["ask", ["list", "a"], cases, ["end", "z", []]]
        step = Step(tree)
        told = step.tree()
        made.append(["y", ""])
        cases[0][0].append("c")
        cases.append(1)
        tree[3] = None
        self.assertEqual(step.tree(), told)
        self.assertEqual(step.run(Tree({"a/b": ""})).made, (("x", "1"),))
        with self.assertRaises(BadStep):
            Step(tree)


class RunStepsTest(unittest.TestCase):
    def test_run(self):
        step = Step(("ask", READ, [(None, ("ask", LIST, [(("b",), ("end", "x", [("q", ""), ("p", "1")]))],
                                           ("end", "y", [])))], ("end", "z", [])))
        run = step.run(tree=Tree({"a/b": ""}))
        self.assertEqual(run.sights, ((READ, None), (LIST, ("b",))))
        self.assertEqual((run.outcome, run.made), ("x", (("p", "1"), ("q", ""))))
        self.assertEqual(step.run(Tree({"a/b": "", "a/c": ""})).outcome, "y")
        self.assertEqual(step.run(Tree({"a": ""})), Run([(READ, "")], "z"))
        self.assertEqual(Step(END).run(Tree()), Run([], ""))

    def test_runs_hold_where_they_ran(self):
        for step in some_steps(1, 40):
            for tree in TREES[::3]:
                run = step.run(tree)
                self.assertTrue(run.holds(tree))
                self.assertEqual([look for look, _ in run.sights], list(dict.fromkeys(look for look, _ in run.sights)))


class MakeRunsTest(unittest.TestCase):
    def test_attributes(self):
        run = Run([[["list", "a"], ["b", "c/"]], (READ, None)], "ok", [["y", "1"], ("x", "")])
        self.assertEqual(repr(run.sights), repr(((LIST, ("b", "c/")), (READ, None))))
        self.assertEqual((run.outcome, run.made), ("ok", (("x", ""), ("y", "1"))))
        self.assertEqual((len(run), len(Run([], ""))), (2, 0))
        self.assertEqual(Run(sights=(), outcome="", made=()), Run([], ""))

    def test_bad_sights(self):
        for thing in odd_things() + [(READ, 1), (READ, None)]:
            with self.assertRaises(BadSight) as caught:
                Run([(READ, "1"), thing, 0], 0, 0)
            self.assertEqual(caught.exception.index, 1)
        for thing in odd_things():
            if not isinstance(thing, (list, tuple)):
                with self.assertRaises(BadSight) as caught:
                    Run(thing, 0, 0)
                self.assertEqual(caught.exception.index, 0)
        with self.assertRaises(BadSight) as caught:
            Run([(READ, "1"), (LIST, ("b",)), (["read", "a"], "1")], "")
        self.assertEqual(caught.exception.index, 2)

    def test_apart_behind_bad_sights(self):
        with self.assertRaises(Apart) as caught:
            Run([(("read", "x"), ""), (READ, "1"), (LIST, ("b",))], 0, 0)
        self.assertEqual((caught.exception.first, caught.exception.second), (1, 2))

    def test_bad_ends(self):
        for thing in odd_things():
            if not isinstance(thing, str):
                with self.assertRaises(BadEnd) as caught:
                    Run([], thing, 0)
                self.assertIs(caught.exception.thing, thing)
        for made in bad_mades():
            with self.assertRaises(BadEnd) as caught:
                Run([(READ, "")], "", made)
            self.assertIs(caught.exception.thing, made)

    def test_later_changes(self):
        sights, made = [[["list", "a"], ["b"]]], [["x", "1"]]
        run = Run(sights, "", made)
        sights[0][1].append("c")
        sights.append(1)
        made[0][1] = "2"
        made.append(0)
        self.assertEqual(run, Run([(LIST, ("b",))], "", [("x", "1")]))


class AskRunsTest(unittest.TestCase):
    def test_note(self):
        run = Run([(("read", "a/b"), None), (("list", "a"), None), (("read", "x"), "1"), (("list", "x"), None)], "")
        self.assertEqual(run.note(), [(("list", "a"), None), (("read", "x"), "1")])

    def test_note_holds_just_where_the_run_does(self):
        bits = small_sights(TREES)
        for step in some_steps(2, 60):
            for tree in TREES[::11]:
                run = step.run(tree)
                note = run.note()
                held = [k for k, one in enumerate(TREES) if run.holds(one)]
                for part in [note] + [[one for one in note if one != sight] for sight in note]:
                    some = [k for k in range(len(TREES)) if all(bits[sight] >> k & 1 for sight in part)]
                    self.assertEqual(some == held, len(part) == len(note))

    def test_holds(self):
        run = Run([(READ, "1"), (("list", "b"), ("c",))], "")
        self.assertIs(run.holds(Tree({"a": "1", "b/c": ""})), True)
        self.assertIs(run.holds(tree=Tree({"a": "1", "b/d": ""})), False)
        self.assertIs(Run([], "").holds(Tree()), True)

    def test_ends_as(self):
        run = Run([], "x", [("a", "1"), ("b", "2")])
        self.assertIs(run.ends_as(Run([(READ, "1")], "x", [("b", "2"), ("a", "1")])), True)
        self.assertIs(run.ends_as(other=Run([], "y", [("a", "1"), ("b", "2")])), False)
        self.assertIs(run.ends_as(Run([], "x", [("a", "1")])), False)

    def test_equal(self):
        one = Run([(READ, None), (LIST, None)], "x", [("a", "1")])
        self.assertTrue(one == Run([(READ, None), (LIST, None)], "x", [("a", "1")]))
        self.assertTrue(one != Run([(LIST, None), (READ, None)], "x", [("a", "1")]))
        self.assertFalse(one == Run([(READ, None), (LIST, None)], "y", [("a", "1")]))
        self.assertFalse(one == Run([(READ, None), (LIST, None)], "x"))
        self.assertFalse(one == Run([(READ, None)], "x", [("a", "1")]))
        for thing in odd_things():
            self.assertFalse(one == thing)
            self.assertTrue(one != thing)


if __name__ == "__main__":
    unittest.main()
