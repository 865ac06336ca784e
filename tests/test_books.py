"""One reader, books, what is sure, what a step hangs on (4.5 to 4.8)."""

import itertools
import random
import time
import unittest

from noteshold.books import (Book, clash, moved_runs, one_reader, stays, step_of, two_steps, ways_to_one)
from noteshold.ends import alike
from noteshold.errors import BadEnd, Known, NotOne
from noteshold.steps import Run, Step
from noteshold.trees import Tree
from tests.worlds import odd_things, small_trees, some_steps

TREES = small_trees()
READ, LIST, NEXT = ("read", "a"), ("list", "a"), ("read", "b")


def some_runs(seed, many, steps=3):
    """Runs of a few steps, in any order, some of them more than once."""
    chance = random.Random(seed)
    told = some_steps(seed, steps, 3)
    return [chance.choice(told).run(chance.choice(TREES)) for _ in range(many)]


def is_of_one_step(runs):
    """Whether some step has all runs, by growing one from the top."""
    def fits(some, place):
        ended = [run for run in some if len(run) == place]
        if ended:
            return len(ended) == len(some) and all(run.ends_as(ended[0]) for run in ended)
        looks = [run.sights[place][0] for run in some]
        answers = [run.sights[place][1] for run in some]
        return all(look == looks[0] for look in looks) and all(
            fits([run for run in some if run.sights[place][1] == answer], place + 1) for answer in answers)

    return fits(list(runs), 0) if runs else True


class ClashTest(unittest.TestCase):
    def test_examples(self):
        run = Run([(READ, "1"), (LIST, None)], "x", [("m", "")])
        for other, truth in [(run, False), (Run([(READ, "1"), (LIST, None)], "y", [("m", "")]), True),
                             (Run([(READ, "1"), (LIST, None)], "x"), True), (Run([(READ, "2")], "y"), False),
                             (Run([(READ, "1")], "x", [("m", "")]), True), (Run([], "x", [("m", "")]), True),
                             (Run([(LIST, None), (READ, "1")], "x", [("m", "")]), True),
                             (Run([(READ, "1"), (NEXT, None)], "x", [("m", "")]), True),
                             (Run([(READ, None), (NEXT, None)], "x"), False)]:
            self.assertIs(clash(run, other), truth)
            self.assertIs(clash(one=other, other=run), truth)

    def test_just_where_no_step_has_both(self):
        runs = some_runs(1, 60, 6)
        for one, other in itertools.product(runs, runs):
            self.assertEqual(clash(one, other), not is_of_one_step([one, other]))

    def test_runs_of_one_step_do_not(self):
        for step in some_steps(4, 30):
            runs = [step.run(tree) for tree in TREES[::13]]
            self.assertFalse(any(clash(one, other) for one, other in itertools.combinations(runs, 2)))


class OneReaderTest(unittest.TestCase):
    def check(self, runs):
        many = range(len(runs))
        for size in range(len(runs) + 1):
            lists = []
            for left in itertools.combinations(many, size):
                if is_of_one_step([runs[k] for k in many if k not in left]):
                    lists.append(list(left))
            if lists:
                self.assertEqual(one_reader(runs), lists[0])
                self.assertEqual(ways_to_one(runs), len(lists))
                return

    def test_all_ways(self):
        for seed in range(120):
            self.check(some_runs(seed, 9, 2 + seed % 4))

    def test_small_ones(self):
        one, two, three = Run([], "1"), Run([], "2"), Run([(READ, None)], "1")
        self.assertEqual((one_reader([]), ways_to_one(())), ([], 1))
        self.assertEqual((one_reader([one, one]), ways_to_one([one, one])), ([], 1))
        self.assertEqual((one_reader(runs=(one, two)), ways_to_one(runs=(one, two))), ([0], 2))
        self.assertEqual((one_reader([one, two, one]), ways_to_one([one, two, one])), ([1], 1))
        self.assertEqual((one_reader([one, two, three]), ways_to_one([one, two, three])), ([0, 1], 3))

    def test_the_first_list_of_branches(self):
        runs = [Run([(READ, "1"), (NEXT, "1")], "x"), Run([(READ, "2")], "y"), Run([(READ, "2")], "x"),
                Run([(READ, "1"), (LIST, None)], "x"), Run([(LIST, None)], "z")]
        self.assertEqual((one_reader(runs), ways_to_one(runs)), ([0, 1, 4], 4))
        self.check(runs)

    def test_sixty_runs(self):
        runs = []
        for k in range(30):
            for outcome in ("x", "y"):
                runs.append(Run([(READ, "1"), (("read", f"c/{k % 10}"), str(k))][:1] + [(NEXT, str(k))], outcome))
        start = time.time()
        self.assertEqual(one_reader(runs), list(range(0, 60, 2)))
        self.assertEqual(ways_to_one(runs), 2 ** 30)
        long = [Run([(("read", f"p{k}"), "1") for k in range(12)], str(k)) for k in range(60)]
        self.assertEqual((one_reader(long), ways_to_one(long)), (list(range(59)), 60))
        mixed = some_runs(8, 60, 12)
        left = one_reader(mixed)
        self.assertTrue(is_of_one_step([run for k, run in enumerate(mixed) if k not in left]))
        self.assertGreater(ways_to_one(mixed), 0)
        self.assertLess(time.time() - start, 10)


class BookTest(unittest.TestCase):
    def setUp(self):
        self.runs = [Run([(READ, "1"), (LIST, None)], "x"), Run([(READ, "2")], "y", [("m", "")]),
                     Run([(READ, None), (LIST, ("b",))], "x")]

    def test_runs(self):
        book = Book([self.runs[1], self.runs[0], self.runs[1], self.runs[2], self.runs[0]])
        told = [self.runs[1], self.runs[0], self.runs[2]]
        self.assertEqual((book.all_runs(), list(book), len(book)), (told, told, 3))
        self.assertEqual([run for run in book], told)
        self.assertEqual((len(Book()), list(Book(runs=()))), (0, []))

    def test_not_one(self):
        for runs, pair in [([self.runs[0], self.runs[0], self.runs[1], Run([(READ, "2")], "z")], (2, 3)),
                           ([self.runs[0], self.runs[1], Run([], ""), Run([(READ, "2")], "z")], (0, 2)),
                           ([Run([], ""), Run([], "1")], (0, 1))]:
            with self.assertRaises(NotOne) as caught:
                Book(runs)
            self.assertEqual((caught.exception.first, caught.exception.second), pair)

    def test_contains(self):
        book = Book(self.runs[:2])
        self.assertTrue(self.runs[0] in book)
        for thing in [self.runs[2], *odd_things()]:
            self.assertFalse(thing in book)

    def test_more(self):
        book = Book(self.runs[:2])
        self.assertEqual(book.more(self.runs[2]).all_runs(), self.runs)
        self.assertEqual(book.more(run=self.runs[0]).all_runs(), self.runs[:2])
        self.assertEqual(len(book), 2)
        with self.assertRaises(NotOne) as caught:
            book.more(Run([(READ, "2")], "z"))
        self.assertEqual((caught.exception.first, caught.exception.second), (1, 2))

    def test_equal(self):
        for runs in itertools.permutations(self.runs):
            self.assertTrue(Book(runs) == Book(self.runs))
        self.assertTrue(Book(self.runs[:2]) != Book(self.runs))
        self.assertTrue(Book(self.runs[:2]) != Book(self.runs[1:]))
        for thing in odd_things():
            if not isinstance(thing, Book):
                self.assertFalse(Book() == thing)

    def test_later_changes(self):
        runs = self.runs[:2]
        book = Book(runs)
        runs.append(self.runs[2])
        book.all_runs().append(0)
        self.assertEqual(book.all_runs(), self.runs[:2])


class SureTest(unittest.TestCase):
    def books(self):
        for seed in range(60):
            chance = random.Random(seed)
            step = some_steps(seed, 1)[0]
            yield step, Book([step.run(chance.choice(TREES)) for _ in range(chance.randint(0, 5))])

    def test_says(self):
        for step, book in self.books():
            for tree in TREES[::7]:
                holding = [run for run in book if run.holds(tree)]
                self.assertLessEqual(len(holding), 1)
                self.assertEqual(book.says(tree), holding[0] if holding else None)
        self.assertIsNone(Book().says(tree=Tree()))

    def test_way(self):
        for step, book in self.books():
            for tree in TREES[::7]:
                told = list(step.run(tree).sights)
                known = [k for k in range(len(told))
                         if any(list(run.sights[:k]) == told[:k] and len(run) > k for run in book)]
                self.assertEqual(book.way(tree), told[:len(known)])

    def test_way_examples(self):
        book = Book([Run([(READ, "1"), (LIST, None)], "x"), Run([(READ, "2")], "y")])
        for files, told in [({"a": "1"}, [(READ, "1"), (LIST, None)]), ({"a": "2"}, [(READ, "2")]),
                            ({"a": "3"}, [(READ, "3")]), ({"a/b": ""}, [(READ, None)])]:
            self.assertEqual(book.way(tree=Tree(files)), told)
        self.assertEqual(Book().way(Tree()), [])
        self.assertEqual(Book([Run([], "")]).way(Tree()), [])

    def test_step_of(self):
        for _, book in self.books():
            step = step_of(book, "else", [("z", "1"), ("y", "")])
            for tree in TREES:
                run, known = step.run(tree), book.says(tree)
                if known is None:
                    self.assertEqual((run.outcome, run.made), ("else", (("y", ""), ("z", "1"))))
                    self.assertEqual(list(run.sights), book.way(tree))
                else:
                    self.assertEqual(run, known)
            looks = [look for run in book for look, _ in run.sights]
            self.assertEqual(sorted(step.looks()), sorted(set(looks)))

    def test_step_of_examples(self):
        book = Book([Run([(READ, "1")], "x"), Run([(READ, None), (LIST, None)], "y", [("m", "")])])
        end = ("end", "e", [])
        told = Step(("ask", READ, [("1", ("end", "x", [])), (None, ("ask", LIST, [
            (None, ("end", "y", [("m", "")]))], end))], end))
        self.assertEqual(step_of(book=book, outcome="e", made=()), told)
        self.assertEqual(step_of(Book(), "e"), Step(end))
        self.assertEqual(step_of(Book([Run([], "r")]), "e"), Step(("end", "r", [])))

    def test_bad_ends(self):
        for outcome in odd_things():
            if not isinstance(outcome, str):
                with self.assertRaises(BadEnd) as caught:
                    step_of(Book(), outcome, 0)
                self.assertIs(caught.exception.thing, outcome)
        for made in [None, 0, "a", {}, [("a",)], [("a", ""), ("a/b", "")]]:
            with self.assertRaises(BadEnd) as caught:
                step_of(Book(), "", made)
            self.assertIs(caught.exception.thing, made)

    def test_two_steps(self):
        for _, book in self.books():
            for tree in TREES[::17]:
                known = book.says(tree)
                if known is not None:
                    with self.assertRaises(Known) as caught:
                        two_steps(book, tree)
                    self.assertEqual(caught.exception.which, known)
                    continue
                pair = two_steps(book=book, tree=tree)
                self.assertIsInstance(pair, tuple)
                one, other = pair
                self.assertFalse(one.run(tree).ends_as(other.run(tree)))
                self.assertFalse(alike(one, other))
                for run in book:
                    for some in TREES[::5]:
                        if run.holds(some):
                            self.assertEqual((one.run(some), other.run(some)), (run, run))

    def test_moved_runs_and_stays(self):
        for _, book in self.books():
            for one, other in itertools.product(TREES[::29], TREES[::31]):
                told = [k for k, run in enumerate(book) if run.holds(one) != run.holds(other)]
                self.assertEqual(moved_runs(book, one, other), told)
                before, behind = book.says(one), book.says(other)
                truth = None not in (before, behind) and before.ends_as(behind)
                self.assertIs(stays(book, one, other), truth)
        book = Book([Run([(READ, "1")], "x"), Run([(READ, "2")], "x"), Run([(READ, "3")], "y")])
        one, two, three = [Tree({"a": text}) for text in "123"]
        self.assertEqual(moved_runs(book=book, one=one, other=two), [0, 1])
        self.assertEqual([stays(book=book, one=one, other=two), stays(book, two, three), stays(book, one, Tree()),
                          stays(book, Tree(), one), stays(book, Tree(), Tree())], [True, False, False, False, False])


if __name__ == "__main__":
    unittest.main()
