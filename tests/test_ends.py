"""Ends, makes, parting, alike, pruned; reasons of a run (4.3, 4.4)."""

import itertools
import time
import unittest

from noteshold.books import Book, step_of
from noteshold.ends import alike, ends, is_step_reason, makes, parting, pruned, step_reasons
from noteshold.errors import BadIndex, BadPath, NoRun
from noteshold.steps import Run, Step
from noteshold.trees import Tree
from tests.worlds import ENDS, odd_things, small_trees, some_steps

TREES = small_trees()
STEPS = some_steps(11, 150) + some_steps(12, 60, 6) + some_steps(13, 60, 3, ENDS[:1] + [("end", "1", [("x", "1")])])
READ = ("read", "a")
LIST = ("list", "a")
ONE, TWO = ("end", "1", []), ("end", "2", [])


def end_of(step, tree):
    run = step.run(tree)
    return (run.outcome, run.made)


def in_places(tree):
    """The ends of a tree of choices in the order of places."""
    if tree[0] == "end":
        return [(tree[1], tree[2])]
    parts = [part for _, part in tree[2]] + [tree[3]]
    return [end for part in parts for end in in_places(part)]


def pruned_by_hand(tree, trees):
    """What is left of a tree of choices to which all these trees come."""
    if tree[0] == "end":
        return tree
    cases = []
    for answer, part in tree[2]:
        taken = [one for one in trees if one.answer(tree[1]) == answer]
        if taken:
            cases.append((answer, pruned_by_hand(part, taken)))
    answers = [answer for answer, _ in tree[2]]
    taken = [one for one in trees if one.answer(tree[1]) not in answers]
    parts = [part for _, part in cases] + ([pruned_by_hand(tree[3], taken)] if taken else [])
    if len(parts) == 1 or parts[0][0] == "end" and all(part == parts[0] for part in parts):
        return parts[0]
    return ("ask", tree[1], tuple(cases), parts[-1])


class EndsTest(unittest.TestCase):
    def test_ends_to_which_trees_come(self):
        for step in STEPS:
            told = ends(step)
            found = []
            for tree in TREES:
                if end_of(step, tree) not in found:
                    found.append(end_of(step, tree))
            self.assertEqual(len(told), len(found))
            self.assertTrue(all(end in found for end in told))
            order = [end for end in dict.fromkeys(in_places(step.tree())) if end in told]
            self.assertEqual(len(order), len(told))

    def test_order(self):
        step = Step(("ask", READ, [("1", TWO), ("2", ONE), (None, TWO)], ("end", "3", [("y", ""), ("x", "")])))
        self.assertEqual(ends(step=step), [("2", ()), ("1", ()), ("3", (("x", ""), ("y", "")))])

    def test_ends_that_none_comes_to(self):
        below = ("ask", ("read", "a/b"), [("1", TWO)], ONE)
        self.assertEqual(ends(Step(("ask", READ, [("1", below)], ONE))), [("1", ())])
        # The other answers of reading a are texts where None has its case.
        other = ("ask", ("list", "a"), [(None, ONE)], TWO)
        self.assertEqual(ends(Step(("ask", READ, [(None, ONE)], other))), [("1", ())])
        self.assertEqual(ends(Step(("ask", READ, [("0", ONE)], other))), [("1", ()), ("2", ())])
        # What is seen to be a folder, whatever is in it, is no file, and neither is what is above it.
        seen = ("ask", ("list", "a/b"), [(None, ONE)], ("ask", ("read", "a"), [(None, ONE)], TWO))
        self.assertEqual(ends(Step(seen)), [("1", ())])

    def test_names_that_are_used_up(self):
        # All fresh names that might be tried stand in looks and answers.
        cases = [((f"x{k}",), TWO) for k in range(5)] + [(None, TWO)]
        step = Step(("ask", LIST, [(("x5/",), ("ask", ("list", "a/x5"), cases, ONE))], TWO))
        self.assertEqual(ends(step), [("2", ()), ("1", ())])
        tree = parting(step, Step(TWO))
        self.assertEqual(end_of(step, tree), ("1", ()))


class MakesTest(unittest.TestCase):
    def test_makes(self):
        made, more = ("end", "", [("x", "1")]), ("end", "", [("x", "2"), ("y", "")])
        step = Step(("ask", READ, [("1", made)], more))
        for path, told in [("x", (True, True)), ("y", (True, False)), ("z", (False, False)), ("x/y", (False, False))]:
            self.assertEqual(makes(step, path), told)
        below = Step(("ask", READ, [("1", ("ask", ("list", "a"), [(("b",), made)], ONE))], more))
        self.assertEqual(makes(step=below, path="x"), (True, False))
        self.assertEqual(makes(below, "y"), (True, False))

    def test_small_world(self):
        for step in STEPS:
            told = ["x" in dict(step.run(tree).made) for tree in TREES]
            self.assertEqual(makes(step, "x"), (any(told), all(told)))

    def test_bad_path(self):
        for path in odd_things():
            if path != "read":
                with self.assertRaises(BadPath) as caught:
                    makes(Step(ONE), path)
                self.assertIs(caught.exception.path, path)


class PartingTest(unittest.TestCase):
    def test_small_world(self):
        for one, other in itertools.product(STEPS[::4], STEPS[::5]):
            tree = parting(one, other)
            parted = any(end_of(one, some) != end_of(other, some) for some in TREES[::1])
            self.assertEqual(tree is not None, parted)
            self.assertIs(alike(one, other), not parted)
            if tree is not None:
                self.assertNotEqual(end_of(one, tree), end_of(other, tree))

    def test_texts_that_nobody_speaks_of(self):
        one = Step(("ask", READ, [(None, ONE), ("x0", ONE), ("x1", ONE)], TWO))
        other = Step(("ask", READ, [(None, ONE), ("x2", ONE), ("x0", ONE)], TWO))
        tree = parting(one, other)
        self.assertNotEqual(end_of(one, tree), end_of(other, tree))
        third = Step(("ask", READ, [(None, ONE), ("x2", ONE), ("x0", ONE), ("x1", ONE)], ONE))
        tree = parting(one, third)
        self.assertNotEqual(end_of(one, tree), end_of(third, tree))
        self.assertIsNone(parting(one=one, other=one))

    def test_one_look_with_unlike_cases(self):
        texts = [Tree({"a": text}) for text in "012"] + [Tree()]
        folders = [Tree({"a/b": ""}), Tree({"a/c": ""}), Tree({"a/b": "", "a/c": ""}), Tree()]
        for look, answers, trees in [(READ, (None, "0", "1"), texts), (LIST, (None, ("b",), ("c",)), folders)]:
            steps = []
            for told in itertools.product((None, ONE, TWO), repeat=3):
                cases = [(answer, end) for answer, end in zip(answers, told) if end is not None]
                steps += [Step(("ask", look, cases, end)) for end in (ONE, TWO)]
            for one, other in itertools.product(steps, steps):
                unlike = [tree for tree in trees if end_of(one, tree) != end_of(other, tree)]
                tree = parting(one, other)
                self.assertEqual(tree is None, unlike == [])
                if tree is not None:
                    self.assertNotEqual(end_of(one, tree), end_of(other, tree))

    def test_files_that_have_to_be(self):
        # a/b is a file by the list of a, but has none of these texts; a/c is a folder, but none of these.
        names = ("b", "c/")
        below = ("ask", ("read", "a/b"), [("", ONE), ("x0", ONE), ("0", ONE)],
                 ("ask", ("list", "a/c"), [(("x0",), ONE), (("x1",), ONE)], TWO))
        step = Step(("ask", LIST, [(names, below)], ONE))
        tree = parting(step, Step(ONE))
        self.assertEqual(end_of(step, tree), ("2", ()))

    def test_looks_in_another_order(self):
        looks = [("read", name) for name in "bcdefgh"]

        def told(order, seen):
            if not order:
                return ("end", str(sum(seen.values()) % 3), [])
            cases = [("1", told(order[1:], {**seen, order[0]: 1}))]
            return ("ask", order[0], cases, told(order[1:], {**seen, order[0]: 0}))

        one, other = Step(told(looks, {})), Step(told(looks[::-1], {}))
        start = time.time()
        self.assertTrue(alike(one, other))
        self.assertLess(time.time() - start, 20)

    def test_large_steps_with_looks_of_their_own(self):
        def told(letter, depth):
            if depth == 0:
                return ("ask", ("read", "src"), [(None, ONE)], TWO)
            cases = [(text, told(letter, depth - 1)) for text in ("1", "2")]
            return ("ask", ("read", letter + str(depth)), cases, told(letter, depth - 1))

        start = time.time()
        self.assertTrue(alike(Step(told("a", 4)), Step(told("b", 4))))
        self.assertLess(time.time() - start, 20)


class PrunedTest(unittest.TestCase):
    def test_small_world(self):
        for step in STEPS:
            told = pruned(step)
            self.assertEqual(told.tree(), pruned_by_hand(step.tree(), TREES))
            self.assertTrue(alike(step, told))
            self.assertEqual(pruned(told), told)

    def test_one_way_alone(self):
        three = ("end", "3", [])
        below = ("ask", ("list", "a"), [(None, ONE), (("b",), TWO)], three)
        self.assertEqual(pruned(step=Step(("ask", READ, [("1", below)], TWO))),
                         Step(("ask", READ, [("1", ONE)], TWO)))
        self.assertEqual(pruned(Step(("ask", READ, [(None, below)], below))),
                         Step(("ask", READ, [(None, below)], ONE)))

    def test_one_end(self):
        self.assertEqual(pruned(Step(("ask", READ, [("1", ONE), (None, ONE)], ONE))), Step(ONE))
        self.assertEqual(pruned(Step(("ask", READ, [("1", ("ask", LIST, [], ONE))], ONE))), Step(ONE))
        stays = Step(("ask", READ, [("1", ONE), ("2", TWO)], ONE))
        self.assertEqual(pruned(stays), stays)


class ReasonsTest(unittest.TestCase):
    def test_small_world(self):
        many = 0
        for number, step in enumerate(STEPS):
            run = step.run(TREES[number * 37 % len(TREES)])
            some = range(len(run))
            held = [[tree.answer(look) == answer for tree in TREES] for look, answer in run.sights]
            right = [end_of(step, tree) == (run.outcome, run.made) for tree in TREES]
            reasons = []
            for numbers in [part for size in range(len(run) + 1) for part in itertools.combinations(some, size)]:
                is_one = all(right[k] for k in range(len(TREES)) if all(held[i][k] for i in numbers))
                self.assertIs(is_step_reason(step, run, numbers), is_one)
                if is_one and not any(set(reason) <= set(numbers) for reason in reasons):
                    reasons.append(numbers)
            self.assertEqual(step_reasons(step, run), reasons)
            many += len(reasons)
        self.assertGreater(many, len(STEPS))

    def test_examples(self):
        step = Step(("ask", READ, [("1", ("ask", ("read", "b"), [("2", ONE)], TWO))],
                     ("ask", ("read", "b"), [("2", ONE)], ("end", "3", []))))
        run = step.run(Tree({"a": "1", "b": "2"}))
        self.assertEqual(step_reasons(step, run), [(1,)])
        self.assertEqual(step_reasons(step=step, run=step.run(Tree({"a": "1"}))), [(0, 1)])
        self.assertEqual(step_reasons(Step(ONE), Run([], "1")), [()])
        self.assertEqual(step_reasons(Step(("ask", READ, [], ONE)), Run([(READ, "x")], "1")), [()])

    def test_two_reasons(self):
        # Reading a/b and listing a tell the same of the file a.
        step = Step(("ask", ("list", "a"), [(None, ("ask", ("list", "a/b"), [(None, ONE)], TWO))],
                     ("ask", ("list", "a/b"), [(None, ONE)], TWO)))
        run = step.run(Tree())
        self.assertEqual(step_reasons(step, run), [(0,), (1,)])

    def test_is_reason_of_any_order(self):
        step = Step(("ask", READ, [("1", ("ask", LIST, [(None, ONE)], TWO))], TWO))
        run = step.run(Tree({"a": "1"}))
        for numbers, truth in [([0], True), ((1, 0, 1, 0), True), ([], False), ([1, 1], False)]:
            self.assertIs(is_step_reason(step=step, run=run, numbers=numbers), truth)

    def test_no_run(self):
        step = Step(("ask", READ, [("1", ONE)], TWO))
        for run in [Run([], "1"), Run([(READ, "1")], "2"), Run([(READ, "2")], "1"), Run([(LIST, None)], "2"),
                    Run([(READ, "1")], "1", [("x", "")]), Run([(READ, "1"), (LIST, None)], "1")]:
            with self.assertRaises(NoRun):
                step_reasons(step, run)
            with self.assertRaises(NoRun):
                is_step_reason(step, run, 0)

    def test_bad_index(self):
        step = Step(("ask", READ, [("1", ONE)], TWO))
        run = Run([(READ, "1")], "1")
        for thing in [-1, 1, True, False, None, "0", [0], (), {}, run]:
            with self.assertRaises(BadIndex) as caught:
                is_step_reason(step, run, [0, thing, None])
            self.assertIs(caught.exception.thing, thing)
        for numbers in odd_things():
            if not isinstance(numbers, (list, tuple)):
                with self.assertRaises(BadIndex) as caught:
                    is_step_reason(step, run, numbers)
                self.assertIs(caught.exception.thing, numbers)

    def test_notes_are_reasons(self):
        for number, step in enumerate(STEPS):
            run = step.run(TREES[number * 53 % len(TREES)])
            note = run.note()
            numbers = [k for k, sight in enumerate(run.sights) if sight in note]
            self.assertTrue(is_step_reason(step, run, numbers))
            # Without one of the note some step that has the run ends otherwise.
            for k in numbers:
                rest = [one for one in numbers if one != k]
                self.assertFalse(is_step_reason(step_of(Book([run]), "else"), run, rest))


if __name__ == "__main__":
    unittest.main()
