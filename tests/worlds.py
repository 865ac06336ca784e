"""Small worlds that the tests go through, and odd objects."""

import itertools
import random

from noteshold.books import Book
from noteshold.index import Index, Row
from noteshold.plain import bare
from noteshold.rules import SORTS, Rule
from noteshold.steps import Run, Step
from noteshold.trees import Tree
from noteshold.versions import Range
from noteshold.works import Work


def odd_things():
    """Objects of all kinds that are no path, name, look, sight, change, step, run ..."""
    return [None, 0, 1, -1, True, False, "", "/", "A", "a/", "/a", "a//b", "a b", "abcdefghi", "a/abcdefghi", "a\n",
            "read", [], (), {}, {"a": "b"}, [[]], ((),), ["read"], ("read", "a", "b"), [None], Tree(), Tree({"a": "1"}),
            Run([], ""), Step(("end", "", [])), Book(), Work(["a"]), Range([(1, 2)]), Row(), Index()]


def raised(error, work):
    """The error of this very kind that a call raises."""
    try:
        work()
    except error as caught:
        return caught
    raise AssertionError(f"{error.__name__} is not raised")


def run(*sights, end="", made=()):
    return Run(sights, end, made)


def read(path, answer):
    return (("read", path), answer)


def folder(path, answer):
    return (("list", path), answer)


def inner_folders(fresh):
    """All that a folder can hold in the small world: a file a with two texts or none, and files with fresh names."""
    found = []
    for text in (None, "0", "1"):
        for many in itertools.product((False, True), repeat=len(fresh)):
            files = {} if text is None else {"a": text}
            files.update({name: "0" for name, stands in zip(fresh, many) if stands})
            if files:
                found.append(files)
    return found


def small_trees(fresh=("c", "d")):
    """All trees of a small world: a is nothing, a file or a folder; so are a/a and a/b; c and d are looked at by nobody.

    No look of the tests reads or lists c and d, so they stand for all names that nobody speaks of.
    """
    parts = [{}, {"": "0"}, {"": "1"}] + inner_folders(fresh)
    found = [Tree(), Tree({"a": "0"}), Tree({"a": "1"})]
    for first, second, third in itertools.product(parts, parts, ({}, {"": "0"})):
        files = {}
        for name, part in (("a", first), ("b", second), ("c", third)):
            files.update({"a/" + name + ("/" + path if path else ""): text for path, text in part.items()})
        if files:
            found.append(Tree(files))
    return found


LOOKS = [("read", "a"), ("list", "a"), ("read", "a/a"), ("list", "a/a"), ("read", "a/b"), ("list", "a/b"),
         ("read", "a/a/a"), ("read", "a/b/a")]


def small_sights(trees):
    """All sights of the small world, each once, with the bits of the numbers of the trees in which it is true."""
    found = {}
    for look in LOOKS:
        for k, tree in enumerate(trees):
            sight = (look, tree.answer(look))
            found[sight] = found.get(sight, 0) | 1 << k
    return found


# The answers that cases of the steps here can have; others are always left, so that the world has all that counts.
CASES = {
    ("read", "a"): [None, "0"], ("read", "a/a"): [None, "0"], ("read", "a/b"): [None, "0"],
    ("read", "a/a/a"): [None, "0"], ("read", "a/b/a"): [None, "0"],
    ("list", "a"): [None, ("a",), ("a/",), ("a/", "b"), ("a", "b/"), ("b/",)],
    ("list", "a/a"): [None, ("a",), ("c",), ("a", "c")], ("list", "a/b"): [None, ("a",), ("c",), ("a", "c")],
}


def some_tree_of_choices(chance, depth, looks, ends):
    """A tree of choices, by a source of chance with a fixed seed."""
    if depth == 0 or not looks or chance.random() < 0.15:
        return chance.choice(ends)
    look = chance.choice(looks)
    rest = [other for other in looks if other != look]
    answers = [answer for answer in CASES[look] if chance.random() < 0.6]
    cases = [(answer, some_tree_of_choices(chance, depth - 1, rest, ends)) for answer in answers]
    return ("ask", look, cases, some_tree_of_choices(chance, depth - 1, rest, ends))


ENDS = [("end", "one", []), ("end", "two", []), ("end", "one", [("x", "1")])]


def some_steps(seed, many, depth=4, ends=ENDS):
    chance = random.Random(seed)
    return [Step(some_tree_of_choices(chance, depth, LOOKS, ends)) for _ in range(many)]


def mark_bits(trees, holds):
    """The bits of the numbers of the trees of which something holds."""
    return sum(1 << k for k, tree in enumerate(trees) if holds(tree))


def names_in(answer):
    return [bare(mark) for mark in answer]


def plain_trees(trees):
    """Those trees that leave texts and names to others, so that these can stand for all that nobody speaks of."""
    return [tree for tree in trees if "1" not in tree.files().values() and not any(path.endswith("d") for path in tree.files())]


def some_run(chance, trees, most=4):
    """A run by some looks in one of these trees."""
    looks = chance.sample(LOOKS, chance.randint(0, most))
    tree = chance.choice(trees)
    return Run([(look, tree.answer(look)) for look in looks], chance.choice("01"), chance.choice([[], [], [("x", "1")]]))


def some_rule(chance):
    rule = Rule([(chance.choice(SORTS), chance.choice([None, "a", "a/a", "a/b", "b", "a/a/a"]))
                 for _ in range(chance.randint(1, 6))])
    return ~rule if chance.random() < 0.3 else rule
