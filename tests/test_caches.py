"""Caches: heaps, poison and clashes, never and idle, least heaps, houses, out of a cache (6.3 to 6.8)."""

import itertools
import random
import time
import unittest

from noteshold.books import Book, clash
from noteshold.builds import build
from noteshold.caches import Cache, out_of
from noteshold.errors import Apart, BadAsk, BadEntry, BadIndex, BadSight, BadSources, NotOne, OwnFolder
from noteshold.forced import settled
from noteshold.rules import SORTS, Rule, safe
from noteshold.steps import Run
from noteshold.trees import Tree
from noteshold.works import Work
from tests.houses import some_books, some_work
from tests.worlds import LOOKS, folder, odd_things, plain_trees, raised, read, run, small_trees, some_rule, some_run

TREES = small_trees()
PLAIN = plain_trees(TREES)
EVERYTHING = Rule([(sort, None) for sort in SORTS])
NOTHING = Rule([])


def some_caches(many, most=6):
    chance = random.Random(7)
    for _ in range(many):
        entries = [(chance.choice("hk"), chance.choice("ssst"), some_run(chance, PLAIN))
                   for _ in range(chance.randint(0, most))]
        yield chance, Cache(some_rule(chance), entries)


def are_true(sights, tree):
    return all(tree.answer(look) == answer for look, answer in sights)


def found_by_hand(entries, rule, name, tree):
    return [k for k, (_, owner, one) in enumerate(entries) if owner == name and are_true(rule.note(one), tree)]


def answer_by_hand(entries, rule, name, tree):
    return (found_by_hand(entries, rule, name, tree) or [None])[-1]


class HeapsTest(unittest.TestCase):
    def test_found_strays_and_answer(self):
        for chance, cache in some_caches(100):
            entries = cache.entries()
            for tree in chance.sample(TREES, 20):
                for name in "stu":
                    told = found_by_hand(entries, cache.rule, name, tree)
                    self.assertEqual(cache.found(name, tree), told)
                    self.assertEqual(cache.strays(name=name, tree=tree), [k for k in told if not entries[k][2].holds(tree)])
                    self.assertEqual(cache.answer(name, tree), told[-1] if told else None)

    def test_entries(self):
        one, other = ["h", "s", run()], ("h", "t", run(read("a", "1")))
        cache = Cache(rule=NOTHING, entries=(one, other))
        self.assertEqual((cache.entries(), len(cache), list(cache)), ([tuple(one), other], 2, [tuple(one), other]))
        self.assertTrue(all(isinstance(entry, tuple) for entry in cache))
        self.assertIs(cache.rule, NOTHING)
        self.assertEqual(cache.more(one).entries(), [tuple(one), other, tuple(one)])
        self.assertEqual(cache.less(index=0).entries(), [other])
        self.assertEqual((len(cache), len(Cache(NOTHING)), Cache(NOTHING).entries()), (2, 0, []))
        cache.entries().clear()
        one[0] = "k"
        self.assertEqual(cache.entries()[0], ("h", "s", run()))

    def test_equal(self):
        entries = [("h", "s", run()), ("h", "t", run())]
        cache = Cache(Rule([("names", "a"), ("names", "b")]), entries)
        self.assertTrue(cache == Cache(Rule([("names", "b"), ("names", "a")]), tuple(entries)))
        for other in [Cache(EVERYTHING, entries), Cache(cache.rule, entries[::-1]), Cache(cache.rule, entries[:1]),
                      Cache(cache.rule, [("k", "s", run()), entries[1]])]:
            self.assertTrue(cache != other)
        for thing in odd_things() + [entries, cache.rule]:
            self.assertFalse(cache == thing)

    def test_wrong_entries_and_indexes(self):
        cache = Cache(NOTHING, [("h", "s", run())])
        for thing in odd_things() + [("h", "s"), ("h", "s", run(), 1), ("h", "S", run()), ("", "s", run()), ("h", "s", "r")]:
            self.assertEqual(raised(BadEntry, lambda: Cache(NOTHING, [("h", "s", run()), thing, 0])).index, 1)
            self.assertEqual(raised(BadEntry, lambda: cache.more(entry=thing)).index, 1)
            if not isinstance(thing, (list, tuple)):
                self.assertEqual(raised(BadEntry, lambda: Cache(NOTHING, thing)).index, 0)
        for thing in [-1, 1, True, False, None, "0", [], (0,), run()]:
            for call in (cache.less, cache.answers_in, cache.missed_in):
                self.assertIs(raised(BadIndex, lambda: call(thing)).thing, thing)


class PoisonTest(unittest.TestCase):
    def test_poisoned(self):
        found = 0
        for _, cache in some_caches(200):
            pairs = [(i, j) for i, j in itertools.combinations(range(len(cache)), 2)
                     if cache.entries()[i][1] == cache.entries()[j][1]
                     and clash(cache.entries()[i][2], cache.entries()[j][2])]
            self.assertEqual(cache.poisoned(), pairs[0] if pairs else None)
            found += bool(pairs)
        self.assertTrue(20 < found < 180)

    def test_clash(self):
        found = 0
        for _, cache in some_caches(200):
            rule, entries = cache.rule, cache.entries()
            told = cache.clash()
            pairs = []
            for i, j in itertools.combinations(range(len(cache)), 2):
                if entries[i][1] == entries[j][1] and not entries[i][2].ends_as(entries[j][2]):
                    notes = rule.note(entries[i][2]) + rule.note(entries[j][2])
                    if any(are_true(notes, tree) for tree in TREES):
                        pairs.append((i, j))
            self.assertEqual(told if told is None else told[:2], pairs[0] if pairs else None)
            if told is not None:
                found += 1
                self.assertTrue(all(k in cache.found(entries[k][1], told[2]) for k in told[:2]))
            whole = Cache(EVERYTHING, entries)
            self.assertTrue(whole.clash() is None or whole.poisoned() is not None)
        self.assertTrue(20 < found < 180)


class NeverTest(unittest.TestCase):
    def test_all_trees(self):
        many = [0, 0, 0]
        for chance, cache in some_caches(250):
            rule, entries = cache.rule, cache.entries()
            never, idle = [], []
            for k, (_, name, one) in enumerate(entries):
                answered = [tree for tree in TREES if answer_by_hand(entries, rule, name, tree) == k]
                rest = entries[:k] + entries[k + 1:]
                missed = []
                for tree in answered:
                    other = answer_by_hand(rest, rule, name, tree)
                    if other is None or not rest[other][2].ends_as(one):
                        missed.append(tree)
                tree = cache.answers_in(k)
                self.assertEqual(tree is None, answered == [])
                self.assertTrue(tree is None or cache.answer(name, tree) == k)
                tree = cache.missed_in(k)
                self.assertEqual(tree is None, missed == [])
                if tree is not None:
                    other = answer_by_hand(rest, rule, name, tree)
                    self.assertEqual(cache.answer(name, tree), k)
                    self.assertTrue(other is None or not rest[other][2].ends_as(one))
                never += [k] if not answered else []
                idle += [k] if not missed else []
            self.assertEqual((cache.never(), cache.idle()), (never, idle))
            self.check_lean(chance, cache)
            many = [many[0] + len(never), many[1] + len(idle) - len(never), many[2] + len(cache) - len(idle)]
        self.assertGreater(min(many), 20)

    def check_lean(self, chance, cache):
        left, place = cache, 0
        while place < len(left):
            if place in left.idle():
                left = left.less(place)
            else:
                place += 1
        lean = cache.lean()
        self.assertEqual(lean, left)
        for tree in chance.sample(TREES, 30):
            for name in "st":
                one, other = cache.answer(name, tree), lean.answer(name, tree)
                self.assertEqual(one is None, other is None)
                if one is not None:
                    self.assertTrue(cache.entries()[one][2].ends_as(lean.entries()[other][2]))

    def test_covered_by_several(self):
        # Two later entries together leave no tree to the first one, as a path that is a file is no folder.
        later = [("h", "s", run(read("a", None))), ("h", "s", run(folder("a", None)))]
        self.assertEqual(Cache(EVERYTHING, [("h", "s", run(end="1")), *later]).never(), [0])
        self.assertEqual(Cache(EVERYTHING, [("h", "t", run(end="1")), *later]).never(), [])
        first = run(folder("a", ("b",)), read("a/b", "1"), end="1")
        self.assertEqual(Cache(EVERYTHING, [("h", "s", first), ("h", "s", run(read("a", None)))]).never(), [0])
        self.assertEqual(Cache(EVERYTHING, [("h", "s", first), ("h", "s", run(read("a/b", "2")))]).never(), [])
        self.assertEqual(Cache(NOTHING, [("h", "s", first), ("h", "s", run())]).never(), [0])

    def test_idle_where_others_end_alike(self):
        one, two = run(read("a", "1"), end="1"), run(read("a", "1"), read("b", "2"), end="1")
        cache = Cache(EVERYTHING, [("h", "s", one), ("h", "s", two)])
        self.assertEqual((cache.never(), cache.idle(), cache.lean().entries()), ([], [1], [("h", "s", one)]))
        turned = Cache(EVERYTHING, [("h", "s", two), ("h", "s", one)])
        self.assertEqual((turned.never(), turned.idle()), ([0], [0]))
        both = Cache(EVERYTHING, [("h", "s", one), ("h", "s", one)])
        self.assertEqual((both.never(), both.idle(), len(both.lean())), ([0], [0, 1], 1))
        made = Cache(EVERYTHING, [("h", "s", one), ("h", "s", run(*two.sights, end="1", made=[("x", "")]))])
        self.assertEqual(made.idle(), [])

    def test_empty(self):
        cache = Cache(EVERYTHING)
        self.assertEqual((cache.never(), cache.idle(), cache.poisoned(), cache.clash(), cache.lean()), ([], [], None, None, cache))
        self.assertEqual((cache.found("s", Tree()), cache.answer("s", Tree()), cache.shared([]), cache.foreign([])),
                         ([], None, [], []))
        self.assertEqual((cache.least([("s", Tree())]), cache.for_house([]), out_of(Work(["s"]), Tree(), cache)),
                         ([()], cache, {}))

    def test_twelve_entries_in_time(self):
        start = time.monotonic()
        chance = random.Random(3)
        paths = ["a", "a/b", "a/b/c", "a/b/c/d", "a/c", "a/c/d", "a/d", "b", "b/c", "b/d"]
        for _ in range(20):
            entries = [("h", "s", run())]
            for _ in range(11):
                looks = chance.sample([(word, path) for word in ("read", "list") for path in paths], 8)
                entries.append(("h", "s", run(*[(look, None) for look in looks], end=chance.choice("01"))))
            cache = Cache(EVERYTHING, entries)
            self.assertEqual(len(cache.least([("s", Tree())] * 6)[0]), 1)
            cache.lean()
            self.assertTrue(set(cache.never()) <= set(cache.idle()))
        self.assertLess(time.monotonic() - start, 20)


class LeastTest(unittest.TestCase):
    def test_all_sets(self):
        for chance, cache in some_caches(150, 5):
            entries = cache.entries()
            asks = [(chance.choice("st"), chance.choice(TREES)) for _ in range(chance.randint(0, 4))]
            right = []
            for many in range(len(entries) + 1):
                for numbers in itertools.combinations(range(len(entries)), many):
                    some = [entries[k] for k in numbers]
                    if all(self.is_same(entries, some, cache.rule, ask) for ask in asks):
                        right.append(numbers)
            self.assertEqual(cache.least(asks=asks), [row for row in right if len(row) == len(right[0])])

    def is_same(self, entries, some, rule, ask):
        one, other = answer_by_hand(entries, rule, *ask), answer_by_hand(some, rule, *ask)
        if one is None or other is None:
            return one == other
        return entries[one][2].ends_as(some[other][2])

    def test_wrong_asks(self):
        cache = Cache(EVERYTHING)
        for thing in odd_things() + [("s",), ("S", Tree()), ("s", {}), ("s", Tree(), 1), (Tree(), "s")]:
            self.assertEqual(raised(BadAsk, lambda: cache.least([["s", Tree()], thing, 0])).index, 1)
            if not isinstance(thing, (list, tuple)):
                self.assertEqual(raised(BadAsk, lambda: cache.least(thing)).index, 0)


class HousesTest(unittest.TestCase):
    def test_all_trees_of_a_house(self):
        many = [0, 0, 0]
        for chance, cache in some_caches(200):
            there = chance.choice(PLAIN)
            facts = [(look, there.answer(look)) for look in chance.sample(LOOKS, chance.randint(0, 4))]
            house = [tree for tree in TREES if are_true(facts, tree)]
            for k, (_, name, one) in enumerate(cache):
                found = [tree for tree in house if are_true(cache.rule.note(one), tree)]
                self.assertEqual(k in cache.foreign(facts), found == [])
                self.assertEqual(k in cache.shared(facts), safe(cache.rule, one, facts))
                if found:
                    self.assertEqual(k in cache.shared(facts), all(one.holds(tree) for tree in found))
                many[0 if not found else 1 if k in cache.shared(facts) else 2] += 1
            self.assertEqual(cache.for_house(facts), Cache(cache.rule, [cache.entries()[k] for k in cache.shared(facts)]))
            self.assertTrue(all(cache.for_house(facts).strays(name, tree) == [] for tree in house for name in "st"))
        self.assertGreater(min(many), 20)

    def test_facts_and_notes_that_bar_each_other(self):
        cache = Cache(EVERYTHING, [("h", "s", run(read("a", "1"))), ("h", "s", run(folder("a", None)))])
        self.assertEqual((cache.shared([folder("a", ("b",))]), cache.foreign(facts=[folder("a", ("b",))])), ([0, 1], [0, 1]))
        self.assertEqual(cache.foreign([read("a", "2")]), [0])

    def test_bad_facts(self):
        for entries in ([], [("h", "s", run())]):
            cache = Cache(EVERYTHING, entries)
            for call in (cache.shared, cache.foreign, cache.for_house):
                self.assertEqual(raised(BadSight, lambda: call([read("a", "1"), 0, read("a", "2")])).index, 1)
                error = raised(Apart, lambda: call([read("b", "1"), read("a", "1"), read("a", "2")]))
                self.assertEqual((error.first, error.second), (1, 2))


class OutOfTest(unittest.TestCase):
    def test_against_books(self):
        answered = [0, 0]
        for seed in range(300):
            chance, work, steps, sources = some_work(seed)
            books = some_books(chance, work, steps, sources)
            rows = [(name, one) for name, book in books.items() for one in book] + [("u", run(folder("u", None)))]
            chance.shuffle(rows)
            entries = [("h", name, one) for name, one in rows]
            told = out_of(work, sources, Cache(EVERYTHING, entries))
            known = settled(work, sources, books)
            self.assertEqual({name: entries[k][2] for name, k in told.items()}, known)
            self.assertEqual(list(told), [name for name in work.names() if name in told])
            # By a rule that keeps less others are answered, in no order that counts.
            rule = Rule([(chance.choice(SORTS), what) for what in (None, chance.choice(work.names()), "src")])
            told = out_of(work, sources, Cache(rule, entries))
            for _ in range(2):
                self.assertEqual(told, out_by_hand(chance, work, sources, rule, entries))
            answered = [answered[0] + len(known), answered[1] + len(told)]
        self.assertGreater(min(answered), 100)

    def test_the_last_one_that_is_not_out(self):
        work = Work(["b", "a"])
        entries = [("h", "a", run(read("s", "1"), end="0")), ("k", "a", run(read("s", "1"), read("t", "1"), end="1")),
                   ("h", "a", run(read("s", "2"), folder("b", None)))]
        cache = Cache(EVERYTHING, entries)
        self.assertEqual(out_of(work=work, sources=Tree({"s": "1", "t": "1"}), cache=cache), {"a": 1})
        self.assertEqual(out_of(work, Tree({"s": "1"}), cache), {"a": 0})
        # The last one is not out as long as b is not answered, but is not all true either.
        self.assertEqual(out_of(work, Tree({"s": "2"}), cache), {})
        self.assertEqual(out_of(work, Tree({"s": "2"}), cache.more(("h", "b", run()))), {"b": 3, "a": 2})
        self.assertEqual(out_of(work, Tree({"s": "2"}), cache.more(("h", "b", run(made=[("x", "")])))), {"b": 3})
        self.assertEqual(out_of(work, Tree({"s": "2"}), Cache(Rule([("contents", "s")]), entries)), {"a": 2})

    def test_wrong_inputs(self):
        work = Work(["b", "a"])
        own = [("h", "a", run(folder("a", None))), ("h", "b", run(read("b", None), read("b/x", None)))]
        self.assertEqual(raised(BadSources, lambda: out_of(work, Tree({"a/x": ""}), Cache(NOTHING, own))).path, "a/x")
        self.assertEqual(raised(OwnFolder, lambda: out_of(work, Tree(), Cache(NOTHING, own))).name, "b")
        self.assertEqual(raised(OwnFolder, lambda: out_of(work, Tree(), Cache(NOTHING, own[:1]))).name, "a")
        self.assertEqual(out_of(work, Tree(), Cache(NOTHING, [("h", "c", run(folder("c", None)))])), {})

    def test_poison_may_be_seen_only_so(self):
        with self.assertRaises(NotOne):
            Book([run(read("s", "1")), run(read("t", "1"))])
        self.assertEqual(Cache(NOTHING, [("h", "a", run(read("s", "1"))), ("h", "a", run(read("t", "1")))]).poisoned(), (0, 1))
        built = build(Work([]), {}, Tree(), [])
        self.assertEqual(out_of(Work([]), Tree(), Cache(NOTHING)), built.runs)


def out_by_hand(chance, work, sources, rule, entries):
    found = {}
    while True:
        tree = work.tree(sources, {name: dict(entries[k][2].made) for name, k in found.items()})
        moves = []
        for name in work.names():
            left = []
            for k, (_, owner, one) in enumerate(entries):
                known = [(look, answer) for look, answer in rule.note(one) if work.need(look) in (None, *found)]
                if owner == name and are_true(known, tree):
                    left.append((k, len(known) == len(rule.note(one))))
            if name not in found and left and left[-1][1]:
                moves.append((name, left[-1][0]))
        if not moves:
            return found
        name, k = chance.choice(moves)
        found[name] = k


if __name__ == "__main__":
    unittest.main()
