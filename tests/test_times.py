"""Times with any number of hands and with few, and plans (11.5)."""

import itertools
import random
import unittest

from noteshold.errors import BadHands, BadLength, BadName, NotTogether, OwnFolder
from noteshold.steps import Run
from noteshold.times import chain_time, is_plan, least_time
from noteshold.works import Work
from tests.worlds import odd_things, raised, read

WORK = Work(["app", "lib", "util", "doc"])
LIB = Run([read("src", "s")], "ok", [("x", "1")])
RUNS = {"lib": LIB, "app": Run([read("lib/x", "1")], ""), "doc": Run([(("list", "lib"), ("x",))], "")}
LENGTHS = {"app": 2, "lib": 3, "doc": 2, "util": 9}


def some_world(seed, most):
    chance = random.Random(seed)
    order = ["a", "b", "c", "d", "e", "f", "g"][:chance.randint(0, most)]
    names = chance.sample(order, len(order))
    runs = {name: Run([read(other + "/q", None) for other in order[:place] if chance.random() < 0.35], "")
            for place, name in enumerate(order)}
    lengths = {name: chance.randint(1, chance.choice([1, 3, 6])) for name in order}
    return Work(names), runs, lengths, {name: [look[1][0] for look, _ in runs[name].sights] for name in order}


def chains_there(needs):
    """All lists of steps each of which needs the one ahead of it."""
    found, line = [], [[name] for name in needs]
    while line:
        row = line.pop()
        found.append(row)
        line += [[*row, name] for name in needs if row[-1] in needs[name]]
    return found


def least_there(needs, lengths, hands):
    """The least time, by going from moment to moment with all sets of steps that can be begun there."""
    best = [sum(lengths.values())]

    def go_on(now, done, doing):
        if len(done) == len(needs):
            best[0] = min(best[0], now)
            return
        if now >= best[0]:
            return
        ready = [name for name in needs if name not in done and name not in doing and all(one in done for one in needs[name])]
        for many in range(min(len(ready), hands - len(doing)) + 1):
            for begun in itertools.combinations(ready, many):
                held = {**doing, **{name: now + lengths[name] for name in begun}}
                if held:
                    then = min(held.values())
                    ended = [name for name in held if held[name] == then]
                    go_on(then, done + ended, {name: end for name, end in held.items() if end > then})

    go_on(0, [], {})
    return best[0] if needs else 0


class ChainsTest(unittest.TestCase):
    def test_plain(self):
        self.assertEqual(chain_time(WORK, RUNS, LENGTHS), (5, ["lib", "app"]))
        self.assertEqual(chain_time(work=WORK, runs=RUNS, lengths={**LENGTHS, "doc": 3}), (6, ["lib", "doc"]))
        self.assertEqual(chain_time(WORK, {}, {}), (0, []))
        self.assertEqual(chain_time(Work(["doc", "lib", "app"]), RUNS, LENGTHS), (5, ["lib", "doc"]))

    def test_small_worlds(self):
        for seed in range(200):
            work, runs, lengths, needs = some_world(seed, 7)
            time, names = chain_time(work, runs, lengths)
            told = [(-sum(lengths[name] for name in row), [work.names().index(name) for name in row], row)
                    for row in chains_there(needs)]
            self.assertEqual((-time, names), (min(told)[0], min(told)[2]) if told else (0, []))


class PlansTest(unittest.TestCase):
    def test_plain(self):
        self.assertEqual(least_time(WORK, RUNS, LENGTHS, 1), (7, [(0, 0, "lib"), (3, 0, "app"), (5, 0, "doc")]))
        for hands in (2, 3):
            time, plan = least_time(work=WORK, runs=RUNS, lengths=LENGTHS, hands=hands)
            self.assertEqual(time, 5)
            self.assertTrue(is_plan(work=WORK, runs=RUNS, lengths=LENGTHS, hands=hands, thing=plan))
        self.assertEqual(least_time(WORK, {}, {}, 2), (0, []))
        self.assertTrue(is_plan(WORK, {}, {}, 2, []))

    def test_small_worlds(self):
        for seed in range(150):
            work, runs, lengths, needs = some_world(seed, 5)
            chain = chain_time(work, runs, lengths)[0]
            for hands in (1, 2, 3):
                time, plan = least_time(work, runs, lengths, hands)
                self.assertEqual(time, least_there(needs, lengths, hands))
                self.assertTrue(is_plan(work, runs, lengths, hands, plan))
                self.assertEqual(time, max([begin + lengths[name] for begin, _, name in plan], default=0))
                self.assertGreaterEqual(time, chain)
                self.assertGreaterEqual(time * hands, sum(lengths.values()))
                if hands >= len(runs):
                    self.assertEqual(time, chain)

    def test_seven_steps_and_three_hands(self):
        for seed in range(40):
            work, runs, lengths, _ = some_world(seed, 7)
            lengths = {name: length * 1000003 + seed for name, length in lengths.items()}
            for hands in (1, 2, 3):
                time, plan = least_time(work, runs, lengths, hands)
                self.assertTrue(is_plan(work, runs, lengths, hands, plan))
                self.assertEqual(time, max([begin + lengths[name] for begin, _, name in plan], default=0))

    def test_is_plan(self):
        plan = [(0, 0, "lib"), (3, 0, "doc"), (3, 1, "app")]
        self.assertTrue(is_plan(WORK, RUNS, LENGTHS, 2, plan))
        self.assertTrue(is_plan(WORK, RUNS, LENGTHS, 2, tuple(list(part) for part in plan)))
        # It need not be one of the least time, nor begin at once.
        self.assertTrue(is_plan(WORK, RUNS, LENGTHS, 3, [(7, 2, "lib"), (10, 2, "app"), (50, 0, "doc")]))
        bad = [plan[:2], plan + plan[:1], plan + [(9, 0, "util")], plan[::-1], [(0, 0, "lib"), (3, 1, "app"), (3, 0, "doc")],
               [(0, 0, "lib"), (2, 1, "doc"), (3, 0, "app")], [(0, 0, "lib"), (3, 1, "app"), (4, 1, "doc")],
               [(0, 2, "lib"), (3, 0, "doc"), (3, 1, "app")], [(-1, 0, "lib"), (3, 0, "doc"), (3, 1, "app")],
               [(0, -1, "lib"), (3, 0, "doc"), (3, 1, "app")], [(False, 0, "lib"), (3, 0, "doc"), (3, 1, "app")],
               [(0, False, "lib"), (3, 0, "doc"), (3, 1, "app")], [(0, 0, "lib"), (3, 0, "doc"), (3, 1, "none")],
               [(0, 0, "lib"), (3, 0, "lib"), (6, 0, "app")], plan + [(9, 0, "app")],
               [(0, 0, "lib"), (3, 0, "app"), (3, 0, "doc")]]
        for thing in [*odd_things(), *bad, *[[*plan[:2], odd] for odd in odd_things()]]:
            self.assertFalse(is_plan(WORK, RUNS, LENGTHS, 2, thing))
        for thing in odd_things():
            self.assertFalse(is_plan(WORK, RUNS, LENGTHS, 2, [*plan[:2], (3, 1, thing)]))
            if type(thing) is not int:
                self.assertFalse(is_plan(WORK, RUNS, LENGTHS, 2, [*plan[:2], (thing, 1, "app")]))
                self.assertFalse(is_plan(WORK, RUNS, LENGTHS, 2, [*plan[:2], (3, thing, "app")]))


class ErrorsTest(unittest.TestCase):
    def calls(self, runs, lengths, hands):
        return [lambda: chain_time(WORK, runs, lengths), lambda: least_time(WORK, runs, lengths, hands),
                lambda: is_plan(WORK, runs, lengths, hands, 7)]

    def test_in_the_order_of_the_text(self):
        own = Run([read("lib/x", None)], "")
        other = Run([read("src", "t")], "")
        cases = [(BadName, "name", "none", {"none": own, "lib": own}), (OwnFolder, "name", "lib", {"lib": own, "app": own}),
                 (NotTogether, "why", ("lacks", "app", 0), {"app": RUNS["app"], "doc": RUNS["doc"]}),
                 (NotTogether, "why", ("untrue", "app", 0), {"app": own, "lib": LIB}),
                 (NotTogether, "why", ("apart", "lib", 0, "util", 0), {"util": other, "lib": LIB})]
        for error, word, told, runs in cases:
            for call in self.calls(runs, {}, 7):
                self.assertEqual(getattr(raised(error, call), word), told)
        ring = {"app": Run([read("lib/x", None)], ""), "lib": Run([read("app/x", None)], "")}
        for call in self.calls(ring, {}, 7):
            self.assertEqual(raised(NotTogether, call).why, ("ring", ["app", "lib"]))
        for call in self.calls(RUNS, {"lib": 0}, 7):
            self.assertEqual(raised(BadLength, call).name, "app")

    def test_bad_lengths(self):
        for thing in odd_things() + [-5, 0]:
            if type(thing) is not int or thing < 1:
                for call in self.calls(RUNS, {**LENGTHS, "lib": thing, "doc": thing}, 7):
                    self.assertEqual(raised(BadLength, call).name, "lib")
        for call in self.calls(RUNS, {"app": 1, "lib": 1}, 7):
            self.assertEqual(raised(BadLength, call).name, "doc")

    def test_bad_hands(self):
        for thing in odd_things() + [0, 4, -1]:
            if type(thing) is not int or not 1 <= thing <= 3:
                for call in self.calls(RUNS, LENGTHS, thing)[1:]:
                    self.assertIs(raised(BadHands, call).hands, thing)


if __name__ == "__main__":
    unittest.main()
