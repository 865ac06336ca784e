"""Small worlds of steps that look into one another's folders, by sources of chance with fixed seeds."""

import random

from noteshold.books import Book
from noteshold.builds import build
from noteshold.index import wish_text
from noteshold.steps import Step
from noteshold.trees import Tree
from noteshold.works import Work
from tests.packages import some_packages

SOURCE_LOOKS = [("read", "src/a"), ("list", "src"), ("read", "src"), ("list", "src/a"), ("read", "wish"),
                ("read", "index/a/1"), ("list", "index/a"), ("read", "index/b/2"), ("list", "index")]
MADE = [[], [("x", "1")], [("x/y", "1")], [("x", "2"), ("z", "")]]
LISTS = [("x",), ("x/",), ("a",), ("a", "b"), ("a/",), ("a/", "b/")]
SOURCES = [{}, {"src": "1"}, {"src/a": "1"}, {"src/a/b": "1", "src/c": "2"}]


def some_step(chance, name, names, depth):
    """A step of this name, which looks at sources and into the folders of the other names."""
    looks = list(SOURCE_LOOKS)
    for other in names:
        if other != name:
            looks += [("list", other), ("read", other + "/x"), ("read", other), ("list", other + "/x"),
                      ("read", other + "/a")]
    return Step(some_choices(chance, looks, depth))


def some_choices(chance, looks, depth):
    if depth == 0 or chance.random() < 0.2:
        return ("end", chance.choice("01"), chance.choice(MADE))
    look = chance.choice(looks)
    rest = [other for other in looks if other != look]
    answers = [None] + chance.sample(["1", "2", ""] if look[0] == "read" else LISTS, 2)
    return ("ask", look, [(answer, some_choices(chance, rest, depth - 1)) for answer in answers],
            some_choices(chance, rest, depth - 1))


def some_sources(chance, packages=2):
    index, wishes = some_packages(chance.randint(0, 10 ** 6), packages, 2)
    files = dict(chance.choice(SOURCES))
    files.update(index.files())
    if chance.random() < 0.9:
        files["wish"] = wish_text(wishes) if chance.random() < 0.9 else "garbage"
    if chance.random() < 0.2:
        files["index/a/7"] = "no row"
    return Tree(files)


def some_work(seed, lock=False):
    """A work, its steps (lock left out) and sources."""
    chance = random.Random(seed)
    names = ["p", "q", "r", "s"][:chance.choice([2, 3, 4])] + (["lock"] if lock else [])
    chance.shuffle(names)
    steps = {name: some_step(chance, name, names, chance.choice([1, 2, 3])) for name in names if name != "lock"}
    return chance, Work(names), steps, some_sources(chance)


def some_books(chance, work, steps, sources):
    """Books of runs that the steps have beside other steps, in these sources and in others."""
    books = {}
    for name in work.names():
        if chance.random() < 0.8:
            runs = []
            for _ in range(chance.randint(0, 4)):
                others = {other: some_step(chance, other, work.names(), 2) for other in steps}
                there = sources if chance.random() < 0.5 else some_sources(chance)
                told = build(work, {**others, name: steps[name]}, there, [name]).runs
                runs += [run for run in told.values() if run is told.get(name)]
            books[name] = Book(runs)
    return books


def needs_there(work, runs, name):
    """A name, and all that it needs."""
    found, line = [], [name]
    while line:
        here = line.pop()
        if here not in found:
            found.append(here)
            line += [work.need(look) for look, _ in runs[here].sights if work.need(look) is not None]
    return found
