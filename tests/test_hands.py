"""Weavings, what came of them, holds, and what may be begun early (11.1 to 11.4)."""

import itertools
import random
import unittest

from noteshold.books import Book
from noteshold.builds import build
from noteshold.errors import (BadDeed, BadHold, BadIndex, BadName, BadPath, BadSources, Blocked, OwnFolder, Waiting)
from noteshold.forced import two_works
from noteshold.hands import Woven, bad_weaving, keeps, least_holds, may_begin, weave
from noteshold.index import Index, Row, wish_text
from noteshold.sights import bars
from noteshold.steps import Run, Step
from noteshold.trees import Tree
from noteshold.versions import Range
from noteshold.works import Work
from tests.houses import some_books, some_work
from tests.worlds import odd_things, raised, read

WORK = Work(["app", "lib"])
LIB = Step(("ask", ("read", "src"), [], ("end", "ok", [("x", "1")])))
APP = Step(("ask", ("list", "lib"), [(None, ("ask", ("read", "lib/x"), [], ("end", "odd", [])))],
            ("end", "good", [("y", "2")])))
STEPS = {"app": APP, "lib": LIB}
SRC = Tree({"src": "s"})
BEGUN = [("begin", "a", "app"), ("on", "a"), ("begin", "b", "lib"), ("on", "b"), ("on", "b"), ("on", "a"), ("on", "a")]


def some_stood(chance, work):
    made = [[], [("x", "1")], [("x", "2"), ("z", "")], [("x/y", "1")], [("a", "0")]]
    return {name: dict(chance.choice(made)) for name in work.names() if chance.random() < 0.6}


def some_weaving(chance, work, steps, sources, stood, many, taken=()):
    """Deeds by chance, as far as they can be done."""
    deeds = []
    for _ in range(many):
        hand, name = chance.choice("abc"), chance.choice(work.names())
        deed = chance.choice([("begin", hand, name), ("on", hand), ("on", hand), ("on", hand), ("stop", hand)]
                             + [("take", owner, run) for owner, run in taken])
        try:
            weave(work, steps, sources, stood, [*deeds, deed])
            deeds.append(deed)
        except BadDeed:
            pass
    return deeds


def closed_work(seed):
    """A work whose names all stand in steps, and sources."""
    chance, work, steps, sources = some_work(seed)
    return chance, work, steps, sources


class WeavingsTest(unittest.TestCase):
    def test_step_by_step(self):
        woven = weave(WORK, STEPS, SRC, {}, [])
        self.assertEqual([woven.done, woven.doing, woven.tree()], [{}, {}, SRC])
        woven = weave(WORK, STEPS, SRC, {}, BEGUN[:4])
        self.assertEqual(woven.done, {})
        self.assertEqual(list(woven.doing.items()), [("a", ("app", ((("list", "lib"), None),))),
                                                     ("b", ("lib", (read("src", "s"),)))])
        woven = weave(work=WORK, steps=STEPS, sources=SRC, stood={}, deeds=BEGUN[:5])
        self.assertEqual(woven.done, {"lib": ((read("src", "s"),), "ok", (("x", "1"),))})
        self.assertEqual(woven.tree(), Tree({"src": "s", "lib/x": "1"}))
        woven = weave(WORK, STEPS, SRC, {}, tuple(BEGUN))
        self.assertEqual(list(woven.done), ["app", "lib"])
        self.assertEqual(woven.done["app"], (((("list", "lib"), None), read("lib/x", "1")), "odd", ()))
        self.assertEqual([woven.torn(), woven.untrue(), woven.doing], [["app"], ["app"], {}])
        self.assertEqual([woven.redo(["app"]), woven.is_right(["app"]), woven.is_right(wanted=["lib"])],
                         [["app"], False, True])
        again = BEGUN + [("begin", "a", "app"), ("on", "a"), ("on", "a")]
        woven = weave(WORK, STEPS, SRC, {}, again)
        self.assertEqual([woven.torn(), woven.untrue(), woven.redo(wanted=["app"]), woven.is_right(["app"])], [[], [], [], True])
        self.assertEqual(woven.done["app"], (((("list", "lib"), ("x",)),), "good", (("y", "2"),)))

    def test_files_of_an_earlier_time(self):
        stood = {"lib": {"x": "0", "z/z": "0"}, "app": {"y": "?"}}
        woven = weave(WORK, STEPS, SRC, stood, [("begin", "a", "lib")])
        self.assertEqual(woven.tree(), Tree({"src": "s", "lib/x": "0", "lib/z/z": "0", "app/y": "?"}))
        stood["lib"]["x"] = "later"
        woven = weave(WORK, STEPS, SRC, stood, BEGUN[2:5])
        self.assertEqual(woven.tree(), Tree({"src": "s", "lib/x": "1", "app/y": "?"}))
        self.assertEqual([woven.redo(["app"]), woven.redo(["lib"]), woven.redo([])], [["app"], [], []])

    def test_given_up_taken_over_and_begun_again(self):
        give = [("begin", "a", "lib"), ("on", "a"), ("stop", "a")]
        woven = weave(WORK, STEPS, SRC, {}, give)
        self.assertEqual([woven.done, woven.doing, woven.tree()], [{}, {}, SRC])
        run = LIB.run(SRC)
        woven = weave(WORK, STEPS, SRC, {"lib": {"q": ""}}, give + [("take", "lib", run), ("begin", "b", "lib")])
        self.assertEqual(woven.done, {"lib": (run.sights, "ok", (("x", "1"),))})
        self.assertEqual(woven.doing, {"b": ("lib", ())})
        self.assertEqual(woven.tree(), Tree({"src": "s", "lib/x": "1"}))

    def test_the_chooser(self):
        work = Work(["app", "lock"])
        app = Step(("ask", ("list", "lock"), [], ("end", "", [])))
        deeds = [("begin", "a", "lock"), ("on", "a"), ("on", "a")]
        woven = weave(work, {"app": app}, SRC, {}, deeds)
        self.assertEqual(woven.done, {"lock": ((read("wish", None),), "odd", ())})
        self.assertEqual(least_holds(work, {"app": app}, SRC, {"lock": {"a": "1"}}, ["app"]), [("app", ("list", "lock"))])

    def test_bad_deeds(self):
        held = [("begin", "a", "app")]
        run = LIB.run(SRC)
        other = Run([read("src", "t")], "")
        own = Run([(("list", "lib"), None)], "")
        bad = odd_things() + [("begin", "a", "lib"), ("begin", "b", "app"), ("begin", "b", "none"), ("begin", "B", "lib"),
                              ("begin", 7, "lib"), ("begin", "b"), ("on", "b"), ("on",), ("on", "a", "b"), ("stop", "b"),
                              ("on", "app"), (["on"], "a"), ("take", "app", APP.run(SRC)), ("take", "none", run),
                              ("take", "lib", other), ("take", "lib", own), ("take", "lib", 7), ("take", "lib"), ("give", "lib", run), ("take", "lib", run, run), ("give", "a"),
                              ("begin", ["b"], "lib"), ("begin", "b", ["lib"]), ("begin", "b", {}), ("on", {})]
        for thing in bad:
            for deeds in ([*held, thing], [*held, thing, 7]):
                self.assertEqual(raised(BadDeed, lambda: weave(WORK, STEPS, SRC, {}, deeds)).index, 1)
                self.assertEqual(raised(BadDeed, lambda: keeps(WORK, STEPS, SRC, {}, deeds, 7)).index, 1)
        for deeds in (None, 7, "", {}):
            self.assertEqual(raised(BadDeed, lambda: weave(WORK, STEPS, SRC, {}, deeds)).index, 0)
            self.assertEqual(raised(BadDeed, lambda: keeps(WORK, STEPS, SRC, {}, deeds, 7)).index, 0)

    def test_errors_in_the_order_of_the_text(self):
        bad = Tree({"lib/x": ""})
        own = Step(("ask", ("list", "lib"), [], ("end", "", [])))
        calls = [lambda *told: weave(*told, 7), lambda *told: keeps(*told, 7, 7), lambda *told: least_holds(*told, [7]),
                 lambda *told: bad_weaving(*told, [7], 7)]
        cases = [(BadSources, "path", "lib/x", {"lib": own, "none": 7}, bad, {"none": {}}),
                 (BadName, "name", "none", {"lib": own, "none": 7}, SRC, {"none": {}}),
                 (OwnFolder, "name", "lib", {"lib": own}, SRC, {"none": {}}),
                 (BadName, "name", "app", {"lib": LIB}, SRC, {"none": {}}),
                 (BadName, "name", "none", STEPS, SRC, {"lib": {"A": ""}, "none": {}}),
                 (BadPath, "path", "lib/A", STEPS, SRC, {"lib": {"A": "", "x": "", "x/y": ""}}),
                 (Blocked, "path", "lib/x/y", STEPS, SRC, {"lib": {"x": "", "x/y": ""}})]
        for call in calls:
            for error, word, told, steps, sources, stood in cases:
                self.assertEqual(getattr(raised(error, lambda: call(WORK, steps, sources, stood)), word), told)
        woven = weave(WORK, STEPS, SRC, {}, [])
        for call in (woven.redo, woven.is_right, lambda wanted: least_holds(WORK, STEPS, SRC, {}, wanted),
                     lambda wanted: bad_weaving(WORK, STEPS, SRC, {}, wanted, 7)):
            for thing in odd_things() + ["none"]:
                self.assertIs(raised(BadName, lambda: call(["app", thing])).name, thing)


class WovenTest(unittest.TestCase):
    def test_small_worlds(self):
        """What woven tells, word by word, and its facts."""
        right = 0
        for seed in range(200):
            chance, work, steps, sources = closed_work(seed)
            stood = some_stood(chance, work)
            deeds = some_weaving(chance, work, steps, sources, stood, chance.choice([10, 40]),
                                 [("p", steps["p"].run(sources))])
            woven = weave(work, steps, sources, stood, deeds)
            self.assertIsInstance(woven, Woven)
            tree = woven.tree()
            untrue = [name for name in woven.done if any(tree.answer(look) != answer for look, answer in woven.done[name][0])]
            self.assertEqual(woven.untrue(), untrue)
            torn = [name for name, (sights, _, _) in woven.done.items()
                    if any(bars(*pair) for pair in itertools.combinations(sights, 2))]
            self.assertEqual(woven.torn(), torn)
            self.assertEqual(list(woven.done), [name for name in work.names() if name in woven.done])
            self.assertEqual(list(woven.doing), sorted(woven.doing))
            for wanted in ([], work.names(), work.names()[:1], work.names()[-1:] * 2):
                counted = self.counted(work, woven, wanted)
                bad = [name for name in work.names() if name in counted and (name not in woven.done or name in untrue)]
                redo = [name for name in bad if not any(other in bad for other in self.needs_ahead(work, woven, name))]
                self.assertEqual(woven.redo(wanted), redo)
                clean = build(work, steps, sources, wanted)
                ends = {name: (run.sights, run.outcome, run.made) for name, run in clean.runs.items()}
                is_clean = not clean.waits and all(woven.done.get(name) == end for name, end in ends.items())
                # It is right just if it is the clean build.
                self.assertEqual(woven.is_right(wanted), is_clean)
                right += is_clean and len(wanted) > 1
                if not clean.waits:
                    self.rounds(chance, work, steps, sources, stood, deeds, wanted)
        self.assertGreater(right, 3)

    def counted(self, work, woven, wanted):
        found = set(wanted)
        while True:
            more = found | {work.need(look) for name in found if name in woven.done for look, _ in woven.done[name][0]} - {None}
            if more == found:
                return found
            found = more

    def needs_ahead(self, work, woven, name):
        found = []
        for look, answer in woven.done.get(name, ((), "", ()))[0]:
            found.append(work.need(look))
            if woven.tree().answer(look) != answer:
                break
        return found

    def rounds(self, chance, work, steps, sources, stood, deeds, wanted):
        """All of redo are done anew, by turns, until all is right."""
        woven = weave(work, steps, sources, stood, deeds)
        rounds = 0
        while woven.redo(wanted):
            deeds = [*deeds, *[("stop", hand) for hand in woven.doing]]
            told = woven.redo(wanted)
            hands = dict(zip("defghi", told))
            deeds += [("begin", hand, name) for hand, name in hands.items()]
            while hands:
                hand = chance.choice(list(hands))
                deeds.append(("on", hand))
                if hand not in weave(work, steps, sources, stood, deeds).doing:
                    del hands[hand]
            woven = weave(work, steps, sources, stood, deeds)
            rounds += 1
            self.assertLess(rounds, 2 * len(work))
        self.assertTrue(woven.is_right(wanted))

    def test_a_ring_is_not_right(self):
        # Both saw what the other one made of what it saw.
        steps = {"app": Step(("ask", ("read", "lib/x"), [("1", ("end", "", [("y", "1")]))], ("end", "", []))),
                 "lib": Step(("ask", ("read", "app/y"), [("1", ("end", "", [("x", "1")]))], ("end", "", [])))}
        deeds = [("begin", "a", "app"), ("on", "a"), ("on", "a"), ("begin", "a", "lib"), ("on", "a"), ("on", "a")]
        woven = weave(WORK, steps, SRC, {"lib": {"x": "1"}}, deeds)
        self.assertEqual([woven.untrue(), woven.redo(["app"]), woven.is_right(["app"])], [[], [], False])
        circle = raised(Waiting, lambda: least_holds(WORK, steps, SRC, {}, ["lib"])).who
        self.assertEqual(circle, ["app", "lib"])
        self.assertEqual(raised(Waiting, lambda: bad_weaving(WORK, steps, SRC, {}, ["lib"], 7)).who, circle)

    def test_what_was_done_as_in_the_clean_build_is_never_bad_again(self):
        for seed in range(60):
            chance, work, steps, sources = closed_work(seed)
            stood = some_stood(chance, work)
            clean = build(work, steps, sources, work.names())
            if clean.waits:
                continue
            deeds = [deed for name in clean.order()[:2] for deed in
                     [("begin", "z", name), *[("on", "z")] * (len(clean.runs[name]) + 1)]]
            names = clean.order()[:2]
            more = some_weaving(chance, work, steps, sources, stood, 0)
            for _ in range(30):
                hand, name = chance.choice("ab"), chance.choice(work.names())
                more.append(chance.choice([("begin", hand, name), ("on", hand), ("on", hand), ("stop", hand)]))
                try:
                    woven = weave(work, steps, sources, stood, deeds + more)
                    self.assertEqual([one for one in woven.untrue() if one in names], [])
                except BadDeed:
                    more.pop()


class HoldsTest(unittest.TestCase):
    def test_keeps(self):
        look, other = ("list", "lib"), ("read", "lib/x")
        self.assertFalse(keeps(WORK, STEPS, SRC, {}, BEGUN, [("app", look)]))
        self.assertTrue(keeps(work=WORK, steps=STEPS, sources=SRC, stood={}, deeds=BEGUN, holds=[("app", other)]))
        self.assertTrue(keeps(WORK, STEPS, SRC, {}, BEGUN, []))
        self.assertTrue(keeps(WORK, STEPS, SRC, {}, BEGUN[2:5] + BEGUN[:2], [["app", ["list", "lib"]], ("app", other)]))
        # Also where the step is given up, and where files of an earlier time stand; what is taken over is shown nothing.
        given = BEGUN[:2] + [("stop", "a")]
        self.assertFalse(keeps(WORK, STEPS, SRC, {"lib": {"x": "1"}}, given, [("app", look)]))
        self.assertTrue(keeps(WORK, STEPS, SRC, {"lib": {"x": "1"}}, given[:1], [("app", look)]))
        run = APP.run(Tree({"lib/x": "1"}))
        take = [("take", "app", run)]
        self.assertTrue(keeps(WORK, STEPS, SRC, {"lib": {"x": "1"}}, take, [("app", look)]))
        taken = [("take", "lib", LIB.run(SRC)), *BEGUN[:2]]
        self.assertTrue(keeps(WORK, STEPS, SRC, {}, taken, [("app", look)]))
        begun = BEGUN[2:5] + [("begin", "b", "lib")] + BEGUN[:2]
        self.assertTrue(keeps(WORK, STEPS, SRC, {}, begun, [("app", look)]))

    def test_bad_holds(self):
        hold = ("app", ("list", "lib"))
        for thing in odd_things() + [("none", hold[1]), ("app", ("read", "src")), ("app", ("read", "lib")), ("app",),
                                     ("app", ("look", "lib/x")), (*hold, 1), ("app", "lib"), ({}, hold[1])]:
            self.assertEqual(raised(BadHold, lambda: keeps(WORK, STEPS, SRC, {}, [], [hold, thing])).index, 1)
        for holds in (None, 7, "", {}):
            self.assertEqual(raised(BadHold, lambda: keeps(WORK, STEPS, SRC, {}, [], holds)).index, 0)

    def test_least(self):
        self.assertEqual(least_holds(WORK, STEPS, SRC, {}, ["app"]), [("app", ("list", "lib"))])
        self.assertEqual(least_holds(WORK, STEPS, SRC, {"lib": {"x": "0"}}, ["app"]), [])
        self.assertEqual(least_holds(work=WORK, steps=STEPS, sources=SRC, stood={}, wanted=["lib"]), [])
        # A step that has to be done ahead by another hold is not held again.
        work = Work(["top", "mid", "low"])
        low = Step(("end", "", [("x", "1"), ("y", "1")]))
        mid = Step(("ask", ("read", "low/x"), [], ("end", "", [("z", "1")])))
        asks = [("read", "low/y"), ("read", "mid/z"), ("read", "low/x"), ("list", "low")]
        for order in itertools.permutations(asks):
            tree = ("end", "", [])
            for look in order[::-1]:
                tree = ("ask", look, [], tree)
            steps = {"top": Step(tree), "mid": mid, "low": low}
            told = []
            for look in order:
                if look[1] == "mid/z":
                    told.append(look)
                    break
                if not told:
                    told.append(look)
            self.assertEqual(least_holds(work, steps, Tree(), {}, ["top"]),
                             [("mid", ("read", "low/x")), *[("top", look) for look in told]])

    def test_small_worlds(self):
        many = 0
        for seed in range(200):
            chance, work, steps, sources = closed_work(seed)
            stood = some_stood(chance, work)
            wanted = chance.choice([work.names(), work.names()[:1]])
            clean = build(work, steps, sources, wanted)
            if clean.waits:
                self.assertEqual(raised(Waiting, lambda: least_holds(work, steps, sources, stood, wanted)).who, clean.ring())
                continue
            holds = least_holds(work, steps, sources, stood, wanted)
            places = [(clean.order().index(name), [seen for seen, _ in clean.runs[name].sights].index(look))
                      for name, look in holds]
            self.assertEqual(places, sorted(places))
            for _ in range(6):
                deeds = self.plain_weaving(chance, work, steps, sources, stood, clean.order())
                woven = weave(work, steps, sources, stood, deeds)
                self.assertEqual(woven.is_right(wanted), keeps(work, steps, sources, stood, deeds, holds))
            for index in range(len(holds)):
                many += 1
                deeds = bad_weaving(work, steps, sources, stood, wanted, index)
                self.is_plain(clean.order(), deeds)
                self.assertTrue(keeps(work, steps, sources, stood, deeds, holds[:index] + holds[index + 1:]))
                self.assertFalse(keeps(work, steps, sources, stood, deeds, holds))
                self.assertFalse(weave(work, steps, sources, stood, deeds).is_right(wanted))
            for thing in odd_things() + [len(holds), -1]:
                if type(thing) is not int or not 0 <= thing < len(holds):
                    error = raised(BadIndex, lambda: bad_weaving(work, steps, sources, stood, wanted, thing))
                    self.assertIs(error.thing, thing)
        self.assertGreater(many, 40)

    def plain_weaving(self, chance, work, steps, sources, stood, names):
        """Each of the names is begun once, by one of two hands, and done."""
        left, deeds = list(names), []
        doing = {}
        while left or doing:
            hand = chance.choice("ab")
            if hand in doing:
                deeds.append(("on", hand))
            elif left:
                # Mostly in order, so that some weavings come out right.
                deeds.append(("begin", hand, left.pop(0 if chance.random() < 0.7 else chance.randrange(len(left)))))
            doing = weave(work, steps, sources, stood, deeds).doing
        return deeds

    def is_plain(self, names, deeds):
        begun = [deed[2] for deed in deeds if deed[0] == "begin"]
        self.assertEqual(sorted(begun), sorted(names))
        self.assertTrue(all(deed[0] in ("begin", "on") for deed in deeds))
        self.assertLessEqual(len({deed[1] for deed in deeds}), 2)


class EarlyTest(unittest.TestCase):
    def test_plain(self):
        books = {"app": Book([APP.run(Tree({"lib/x": "1"}))]), "lib": Book([LIB.run(SRC)])}
        self.assertEqual(may_begin(WORK, SRC, books, {}, "lib"), "sure")
        self.assertEqual(may_begin(work=WORK, sources=SRC, books=books, stood={}, name="app"), "vain")
        self.assertEqual(may_begin(WORK, SRC, books, {"lib": {"x": "?"}}, "app"), "sure")
        self.assertEqual(may_begin(WORK, Tree(), books, {"lib": {"x": "1"}}, "app"), "open")
        self.assertEqual(may_begin(WORK, SRC, {}, {}, "app"), "open")
        ring = {"app": Book([Run([read("lib/x", None)], "")]), "lib": Book([Run([read("app/x", None)], "")])}
        self.assertEqual(may_begin(WORK, SRC, ring, {}, "app"), "vain")

    def test_small_worlds(self):
        seen = {}
        for seed in range(200):
            chance, work, steps, sources = closed_work(seed)
            books = some_books(chance, work, steps, sources)
            stood = some_stood(chance, work)
            tree = work.tree(sources, stood)
            for name in work.names():
                word = may_begin(work, sources, books, stood, name)
                seen[word] = seen.get(word, 0) + 1
                works = [steps]
                try:
                    works += two_works(work, sources, books, name)
                except ValueError:
                    pass
                told = []
                for some in works:
                    clean = build(work, some, sources, [name])
                    told.append(clean.runs.get(name) == some[name].run(tree))
                if word != "open":
                    self.assertEqual(set(told), {word == "sure"}, (seed, name))
        self.assertGreater(min(seen[word] for word in ("sure", "vain", "open")), 20)

    def test_errors(self):
        bad = Tree({"lib/x": ""})
        own = Book([Run([read("lib/x", None)], "")])
        cases = [(BadSources, "path", "lib/x", bad, {"none": own, "lib": own}, {"none": {}}),
                 (BadName, "name", "none", SRC, {"none": own, "lib": own}, {"none": {}}),
                 (OwnFolder, "name", "lib", SRC, {"lib": own}, {"none": {}}), (BadName, "name", "none", SRC, {}, {"none": {}}),
                 (BadPath, "path", "lib/A", SRC, {}, {"lib": {"A": ""}}), (BadName, "name", "other", SRC, {}, {})]
        for error, word, told, sources, books, stood in cases:
            self.assertEqual(getattr(raised(error, lambda: may_begin(WORK, sources, books, stood, "other")), word), told)
        for thing in odd_things():
            self.assertIs(raised(BadName, lambda: may_begin(WORK, SRC, {}, {}, thing)).name, thing)


class LimitsTest(unittest.TestCase):
    def test_many_deeds_of_six_steps(self):
        """Five steps, each of which looks into the folders of those ahead of it, and the chooser, by four hands."""
        rows = {(name, version): Row(needs=[(None, [(other, Range([(1, 20)]))], []) for other in "bc" if other > name])
                for name in "abc" for version in range(1, 6)}
        sources = Tree({"wish": wish_text([("a", Range([(1, 20)]), [])]), **Index(rows).files()})
        names = ["lock", "s1", "s2", "s3", "s4", "s5"]
        steps = {}
        for place, name in enumerate(names[1:]):
            tree = ("end", "", [("x", str(place))])
            for other in names[max(0, place - 3):place + 1]:
                tree = ("ask", ("list", other), [(None, ("end", "none", []))], tree)
            steps[name] = Step(tree)
        work = Work(names)
        clean = build(work, steps, sources, names)
        chance = random.Random(1)
        for _ in range(2):
            deeds = []
            while len(deeds) < 120:
                hand, name = chance.choice("abcd"), chance.choice(names)
                deed = chance.choice([("begin", hand, name), *[("on", hand)] * 6])
                try:
                    woven = weave(work, steps, sources, {}, [*deeds, deed])
                    deeds.append(deed)
                except BadDeed:
                    pass
            ends = {name: (run.sights, run.outcome, run.made) for name, run in clean.runs.items()}
            self.assertEqual(woven.is_right(names), woven.done == ends)
        holds = least_holds(work, steps, sources, {}, names)
        deeds = [deed for name in clean.order() for deed in [("begin", "a", name), *[("on", "a")] * (len(clean.runs[name]) + 1)]]
        self.assertTrue(keeps(work, steps, sources, {}, deeds, holds))
        self.assertTrue(weave(work, steps, sources, {}, deeds).is_right(names))
        for index in range(len(holds)):
            self.assertFalse(weave(work, steps, sources, {}, bad_weaving(work, steps, sources, {}, names, index)).is_right(names))


if __name__ == "__main__":
    unittest.main()
