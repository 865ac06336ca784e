"""Rules and locks judged for all histories (10.5 to 10.7, 10.9, 10.10)."""

import itertools
import random
import unittest

from noteshold.errors import BadDeed, BadHouse, BadKept, BadManner, BadPattern, NoteError
from noteshold.histories import Fault, judged, least_locks, least_rules, locked
from noteshold.rules import SORTS, Rule
from noteshold.stages import Stage, keeps_to, moments, table
from noteshold.steps import Run
from noteshold.trees import Tree
from tests import branches
from tests.worlds import odd_things, raised

ALL = [(sort, None) for sort in SORTS]
PLAIN = Stage({"main": Tree({"src/a": "0"}), "store": Tree()}, {"home": ("main", "store", "c")})
EDIT = ("edit", "main", [("put", "src/a", "1")])
MANNERS = {"app": ([], ["lib/**"]), "lib": ([], ["src/*"])}


def builds_in(history):
    return [deed for deed in history if deed[0] == "build"]


class FaultsTest(unittest.TestCase):
    def holds(self, stage, deeds, manners, rule, fault):
        """What is so of each fault of judged."""
        self.assertIsInstance(fault, Fault)
        self.assertIsInstance(fault.history, list)
        self.assertEqual(len(builds_in(fault.history)), 2)
        self.assertEqual(fault.history[-1][0], "build")
        told = [("edit", deed[1], tuple(tuple(change) for change in deed[2])) if deed[0] == "edit" else tuple(deed)
                for deed in deeds]
        self.assertTrue(all(deed in told or deed[0] == "build" for deed in fault.history))
        self.shows(manners, fault)
        shop, done = branches.shop_behind(stage, fault.steps, rule, fault.history)
        house = fault.history[-1][1]
        self.assertFalse(shop.is_clean(house))
        words = {name: word for name, word, _ in done[-1]}
        self.assertEqual(words[fault.chain[0]], "left")
        clean = branches.shop_behind(shop.stage(), fault.steps, rule, [("build", house)])[0]
        made = {name: run.made for name, run in clean.runs_of(house).items()}
        self.assertNotEqual(shop.runs_of(house)[fault.chain[0]].made, made[fault.chain[0]])
        return clean

    def shows(self, manners, fault):
        """The steps keep to their manners, and the chain leads to a source."""
        self.assertEqual(sorted(fault.steps), sorted(manners))
        for place, name in enumerate(fault.steps):
            firsts = [path.split("/")[0] for path in [*manners[name][0], *manners[name][1]]]
            self.assertTrue(all(other in list(fault.steps)[:place] for other in manners if other in firsts))
            self.assertTrue(all(keeps_to(manners, name, run) for run in self.runs_of_ways(fault.steps[name].tree(), [])))
        self.assertEqual(len(set(fault.chain)), len(fault.chain))
        for name, other in zip(fault.chain, fault.chain[1:]):
            self.assertIn(other, [look[1].split("/")[0] for look in fault.steps[name].looks()])
        last = fault.steps[fault.chain[-1]].looks()
        self.assertTrue(any(look[1].split("/")[0] not in manners for look in last))

    def runs_of_ways(self, tree, sights):
        """Runs along all ways of a tree of choices, other answers by a text and a name that nobody tells."""
        if tree[0] == "end":
            try:
                return [Run(sights, tree[1], tree[2])]
            except NoteError:
                return []
        found = []
        other = "else" if tree[1][0] == "read" else ("else",)
        for answer, part in [*tree[2], (other, tree[3])]:
            found += self.runs_of_ways(part, [*sights, (tree[1], answer)])
        return found

    def test_a_plain_fault(self):
        fault = judged(PLAIN, [EDIT], MANNERS, Rule(ALL) & ~Rule([("contents", "src")]))
        self.holds(PLAIN, [EDIT], MANNERS, Rule(ALL) & ~Rule([("contents", "src")]), fault)
        self.assertEqual(fault.history, [("build", "home"), ("edit", "main", (("put", "src/a", "1"),)), ("build", "home")])
        self.assertEqual(fault.chain, ["lib"])
        self.assertEqual(list(fault.steps), ["lib", "app"])

    def test_what_drops_nothing_is_right(self):
        self.assertIsNone(judged(PLAIN, [EDIT], MANNERS, Rule(ALL)))
        self.assertIsNone(judged(PLAIN, [], MANNERS, Rule([])))
        self.assertIsNone(judged(PLAIN, [EDIT], {}, Rule([])))

    def test_a_house_by_itself(self):
        shelves = {"main": Tree({"src/a": "0"}), "feat": Tree({"src/a": "1"}), "store": Tree()}
        one = Stage(shelves, {"h": ("main", "store", "c"), "k": ("feat", "store", "c")})
        two = Stage(shelves, {"h": ("main", "store", "c"), "k": ("feat", "store", "d")})
        manners = {"p": (["src/a"], [])}
        fault = judged(one, [], manners, Rule([]))
        self.holds(one, [], manners, Rule([]), fault)
        self.assertEqual(len(fault.history), 2)
        self.assertIsNone(judged(two, [], manners, Rule([])))
        self.assertIsNone(judged(one, [], manners, Rule([("contents", "src/a")])))

    def test_pinned_paths(self):
        # A first of which both sorts are kept holds a step, one of which a sort is dropped does not.
        manners = {"p": (["q/x"], ["q/*"]), "q": ([], ["src/*"])}
        for path in ("q/x", "q/y"):
            for sort in SORTS:
                rule = Rule(ALL) & ~Rule([(sort, path)])
                fault = judged(PLAIN, [EDIT], manners, rule)
                self.holds(PLAIN, [EDIT], manners, rule, fault)
                self.assertEqual(fault.chain, ["p", "q"])
        manners = {"p": (["q/x"], ["r/*"]), "q": ([], ["src/*"]), "r": (["q/x"], [])}
        rule = Rule(ALL) & ~Rule([("contents", "r")])
        self.assertIsNone(judged(PLAIN, [EDIT], manners, rule))
        rule = rule & ~Rule([("lacking", "q/x")])
        fault = judged(PLAIN, [EDIT], manners, rule)
        self.holds(PLAIN, [EDIT], manners, rule, fault)

    def test_what_is_seen_far_down(self):
        """A step that sees another one, which sees a third: by firsts, pinned or not, whatever the order they are told in."""
        worlds = [({"p": ([], ["q/*"]), "q": (["s/x"], []), "s": (["src/a"], [])}, [], True),
                  ({"p": (["s/x"], ["q/*"]), "q": (["s/x"], []), "s": (["src/a"], [])}, [], False),
                  ({"p": (["s/x"], ["q/*"]), "q": (["s/x"], []), "s": (["src/a"], [])}, [("lacking", "s/x")], True),
                  ({"p": (["s/x"], ["q/*"]), "q": (["s/x"], []), "s": (["src/a"], [])}, [("contents", "s/x")], True),
                  ({"p": (["s/x"], ["q/*"]), "q": (["s/x"], []), "s": (["src/a"], [])}, [("names", "s/x")], False),
                  ({"p": (["s/x"], ["q/*"]), "q": (["s/x", "t/x"], []), "s": (["src/a"], []), "t": ([], ["src/*"])}, [], True),
                  ({"p": (["s/x"], ["q/*"]), "q": (["s/x"], ["s/x"]), "s": (["src/a"], [])}, [], True),
                  ({"p": (["s/x", "t/x"], ["q/*"]), "q": (["s/x"], []), "s": (["t/x"], []), "t": ([], ["src/*"])}, [], False),
                  ({"p": (["t/x"], ["q/*"]), "q": (["s/x"], []), "s": (["t/x"], []), "t": ([], ["src/*"])}, [], False),
                  ({"p": (["t/x"], ["q/*"]), "q": (["s/x"], []), "s": (["t/x"], ["t/y"]), "t": ([], ["src/*"])}, [], True)]
        for told, more, is_wrong in worlds:
            for order in itertools.permutations(told):
                manners = {name: told[name] for name in order}
                rule = Rule(ALL) & ~Rule([("contents", "q"), *more])
                fault = judged(PLAIN, [EDIT], manners, rule)
                self.assertEqual(fault is not None, is_wrong, (order, more))
                if is_wrong:
                    self.holds(PLAIN, [EDIT], manners, rule, fault)

    def test_a_first_beneath_a_step_that_is_seen_whole(self):
        manners = {"p": (["q/x/y", "q/z"], ["q/x"]), "q": (["src/a"], [])}
        for sort, path in itertools.product(SORTS, ["q/x", "q/x/y", "q"]):
            rule = Rule(ALL) & ~Rule([(sort, path)])
            fault = judged(PLAIN, [EDIT], manners, rule)
            if path == "q/x/y" and sort in ("names", "nofolder"):
                self.assertIsNone(fault)
            else:
                self.holds(PLAIN, [EDIT], manners, rule, fault)

    def test_locked_parts_of_patterns(self):
        stage = Stage({"main": Tree({"lock/r": "x"}), "store": Tree({"got/x/f": "0", "got/y/f": "0"})},
                      {"home": ("main", "store", "c")})
        manners = {"p": (["lock/r"], ["got/@r/*"])}
        rule = Rule(ALL) & ~Rule([("contents", "got")])
        other = ("edit", "store", [("put", "got/y/f", "1")])
        self.assertIsNone(judged(stage, [other], manners, rule))
        change = ("edit", "main", [("put", "lock/r", "y")])
        # With the text of lock/r all firsts are as they were, so that the path is the same.
        self.assertIsNone(judged(stage, [change], manners, rule))
        fault = judged(stage, [other, change], manners, rule)
        self.assertEqual(len(fault.history), 4)
        self.holds(stage, [other, change], manners, rule, fault)
        self.assertIsNone(judged(stage, [("edit", "main", [("put", "lock/r", "no name")])], manners, rule))

    def test_deeds_that_give_a_house_files_of_a_step_are_not_done(self):
        edit = ("edit", "main", [("put", "src/a", "1"), ("put", "lib/x", "0")])
        self.assertIsNone(judged(PLAIN, [edit], MANNERS, Rule([])))
        self.assertEqual(judged(PLAIN, [edit, EDIT], MANNERS, Rule([])).history[1][0], "edit")

    def test_small_worlds(self):
        wrong, longest = 0, 0
        for seed in range(260):
            chance = random.Random(seed)
            stage, deeds = branches.some_stage(chance), branches.some_deeds(chance)
            manners, rule = branches.some_manners(chance), branches.some_rule(chance)
            rows = branches.rows_of_stages(stage, deeds, manners)
            if len(rows) > 14:
                continue
            houses = stage.houses()
            best = None
            for many, start, house, end, other in branches.pairs_of_moments(rows):
                if houses[house][2] == houses[other][2] and (best is None or many < best):
                    one, two = rows[start][0].sources(house), rows[end][0].sources(other)
                    if any(branches.is_misled_there(manners, rule, name, one, two) for name in manners):
                        best = many
            fault = judged(stage, deeds, manners, rule)
            self.assertEqual(fault is None, best is None, seed)
            if fault is not None:
                wrong += 1
                longest = max(longest, len(fault.chain))
                self.assertEqual(len(fault.history), best + 2, seed)
                self.holds(stage, deeds, manners, rule, fault)
            else:
                self.all_clean(chance, stage, deeds, manners, rule)
        self.assertGreater(wrong, 60)
        self.assertGreater(longest, 2)

    def all_clean(self, chance, stage, deeds, manners, rule):
        """With a rule that is right each build of each history is clean, by steps that keep to the manners."""
        names = [name for name in ("p", "q", "r") if name in manners]
        for _ in range(6):
            steps = {name: branches.some_step_of_manner(chance, manners, name) for name in names}
            shop = branches.shop_behind(stage, steps, rule, [])[0]
            for _ in range(12):
                deed = chance.choice([*deeds, ("build", "one"), ("build", "two"), ("build", "one"), ("lose", "c")])
                try:
                    shop.do(deed)
                except BadDeed:
                    continue
                self.assertTrue(shop.is_clean("one") and shop.is_clean("two"))


class LeastRulesTest(unittest.TestCase):
    def test_plain(self):
        kept = [("contents", None), ("names", "lib"), ("lacking", "src"), ("nofolder", "lib"), ("names", "src"),
                ("contents", "src")]
        manners = {"lib": ([], ["src/*"]), "app": ([], ["lib"])}
        self.assertEqual(least_rules(PLAIN, [EDIT], manners, kept), [(0, 1, 3), (1, 3, 5)])
        self.assertEqual(least_rules(PLAIN, [EDIT], manners, kept[:3]), [])
        self.assertEqual(least_rules(PLAIN, [], manners, kept), [()])
        self.assertEqual(least_rules(PLAIN, [], manners, []), [()])
        self.assertEqual(least_rules(PLAIN, [EDIT], manners, []), [])

    def test_small_worlds(self):
        many = 0
        for seed in range(80):
            chance = random.Random(1000 + seed)
            stage, deeds = branches.some_stage(chance), branches.some_deeds(chance, 2)
            manners = {name: (firsts, []) for name, (firsts, _) in branches.some_manners(chance, 2).items()}
            pairs = [(sort, what) for sort in SORTS[:2] for what in (None, "src", "lock", "got", "p", "src/a", "p/x")]
            kept = chance.sample(pairs, 5) if seed % 4 else branches.some_pairs(chance)[:5]
            right = []
            for size in range(len(kept) + 1):
                for numbers in itertools.combinations(range(len(kept)), size):
                    if not any(set(part) <= set(numbers) for part in right):
                        if judged(stage, deeds, manners, Rule([kept[k] for k in numbers])) is None:
                            right.append(numbers)
            self.assertEqual(least_rules(stage, deeds, manners, kept), right)
            many += len(right) > 1
            for numbers in itertools.combinations(range(len(kept)), 2):
                # One that keeps more than a right one is right.
                if any(set(part) <= set(numbers) for part in right):
                    self.assertIsNone(judged(stage, deeds, manners, Rule([kept[k] for k in numbers])))
        self.assertGreater(many, 3)

    def test_errors(self):
        for thing in odd_things() + [("contents",), ("contents", "A"), ("all", None), ("names", "a", "b")]:
            error = raised(BadKept, lambda: least_rules(PLAIN, [EDIT], MANNERS, [("names", None), thing]))
            self.assertEqual(error.index, 1)
        for kept in ["", 7, None, {"contents": None}]:
            self.assertEqual(raised(BadKept, lambda: least_rules(PLAIN, [EDIT], MANNERS, kept)).index, 0)
        twice = [("names", None), ("names", "a"), ["names", None]]
        self.assertEqual(raised(BadKept, lambda: least_rules(PLAIN, [EDIT], MANNERS, twice)).index, 2)


class LocksTest(unittest.TestCase):
    def holds(self, stage, manners, patterns, fault):
        """What is so of each fault of locked."""
        FaultsTest.shows(self, manners, fault)
        self.assertEqual(fault.history[-1][0], "build")
        (_, house, one), (_, other, two) = moments(stage, fault.history)
        self.assertEqual(self.written(patterns, one), self.written(patterns, two))
        ends = []
        for tree in (one, two):
            alone = Stage({"w": tree, "s": Tree()}, {"h": ("w", "s", "c")})
            shop = branches.shop_behind(alone, fault.steps, Rule([]), [("build", "h")])[0]
            ends.append(shop.runs_of("h")[fault.chain[0]].made)
        self.assertNotEqual(*ends)

    def runs_of_ways(self, tree, sights):
        return FaultsTest.runs_of_ways(self, tree, sights)

    def written(self, patterns, tree):
        return {path: text for path, text in tree.files().items() if branches.is_matched_there(patterns, path, tree)}

    def test_plain(self):
        self.assertIsNone(locked(PLAIN, [EDIT], MANNERS, ["src/*"]))
        self.assertIsNone(locked(PLAIN, [EDIT], MANNERS, ["**"]))
        self.assertIsNone(locked(PLAIN, [], MANNERS, []))
        fault = locked(PLAIN, [EDIT], MANNERS, ["src/b"])
        self.holds(PLAIN, MANNERS, ["src/b"], fault)
        self.assertEqual(len(fault.history), 3)
        self.assertEqual(least_locks(PLAIN, [EDIT], MANNERS, ["src/b", "**", "src/a", "*/*", "lock/*"]), [(1,), (2,), (3,)])
        self.assertEqual(least_locks(PLAIN, [EDIT], MANNERS, ["src/b"]), [])
        self.assertEqual(least_locks(PLAIN, [], MANNERS, ["src/b"]), [()])

    def test_houses_with_unlike_caches_count_here(self):
        shelves = {"main": Tree({"src/a": "0"}), "feat": Tree({"src/a": "1"}), "store": Tree()}
        stage = Stage(shelves, {"h": ("main", "store", "c"), "k": ("feat", "store", "d")})
        self.assertEqual(len(locked(stage, [], MANNERS, []).history), 2)
        self.assertIsNone(judged(stage, [], MANNERS, Rule([])))

    def test_more_patterns_can_tell_less(self):
        # One pattern tells two files apart that stand at unlike places, both together write down just the same.
        shelves = {"main": Tree({"lock/r": "x"}), "feat": Tree({"lock/r": "y"}), "store": Tree({"got/x": "", "got/y": ""})}
        stage = Stage(shelves, {"h": ("main", "store", "c"), "k": ("feat", "store", "c")})
        manners = {"p": (["lock/r"], [])}
        self.assertIsNone(locked(stage, [], manners, ["got/@r"]))
        self.assertIsNotNone(locked(stage, [], manners, ["got/@r", "got/*"]))
        self.assertEqual(least_locks(stage, [], manners, ["got/@r", "got/*", "@r/**"]), [(0,)])

    def test_small_worlds(self):
        wrong, right = 0, 0
        patterns = ["src/*", "**", "lock/r", "got/@r/f", "got/**", "src/a", "*/*/*", "@s/**"]
        for seed in range(120):
            chance = random.Random(2000 + seed)
            stage, deeds = branches.some_stage(chance), branches.some_deeds(chance, 3)
            manners = branches.some_manners(chance)
            rows = branches.rows_of_stages(stage, deeds, manners)
            if len(rows) > 12:
                continue
            chosen = chance.sample(patterns, 4)
            told = list(branches.pairs_of_moments(rows))
            found = []
            for numbers in [part for size in range(5) for part in itertools.combinations(range(4), size)]:
                some = [chosen[k] for k in numbers]
                best = None
                for many, start, house, end, other in told:
                    one, two = rows[start][0].sources(house), rows[end][0].sources(other)
                    if self.written(some, one) == self.written(some, two) and (best is None or many < best):
                        if any(branches.sways_there(manners, name, one, two, []) for name in manners):
                            best = many
                fault = locked(stage, deeds, manners, some)
                self.assertEqual(fault is None, best is None, (seed, some))
                if fault is not None:
                    wrong += 1
                    self.assertEqual(len(fault.history), best + 2)
                    self.holds(stage, manners, some, fault)
                elif not any(set(part) <= set(numbers) for part in found):
                    right += len(numbers) > 0
                    found.append(numbers)
            self.assertEqual(least_locks(stage, deeds, manners, chosen), found)
        self.assertGreater(min(wrong, right), 30)

    def test_errors(self):
        for function in (locked, least_locks):
            for thing in odd_things() + ["@", "@A/b", "a/@", "a/***", "x/@r@s"]:
                if thing not in ("read", "a b") and not (isinstance(thing, str) and thing in ("",)) and thing != "a":
                    error = raised(BadPattern, lambda: function(PLAIN, [EDIT], MANNERS, ["@x/**/@y", thing]))
                    self.assertIs(error.thing, thing)
            for patterns in ["src", 7, None, {"src": 1}]:
                error = raised(BadPattern, lambda: function(PLAIN, [EDIT], MANNERS, patterns))
                self.assertIs(error.thing, patterns)


class ErrorsTest(unittest.TestCase):
    def calls(self, stage=PLAIN, deeds=(EDIT,), manners=None):
        told = MANNERS if manners is None else manners
        return [lambda: judged(stage, deeds, told, Rule([])), lambda: least_rules(stage, deeds, told, [7]),
                lambda: locked(stage, deeds, told, [7]), lambda: least_locks(stage, deeds, told, [7])]

    def test_deeds(self):
        bad = odd_things() + [("build", "home"), ("lose", "c"), ("edit", "other", []), ("copy", "main", "other"),
                              ("move", "main", 0, "main"), ("move", "home", 2, "main"), ("move", "home", False, "main"),
                              ("choose", "main"), ("edit", "main", [("put", "A", "")]), ("edit", "main", 7)]
        for thing in bad:
            for call in self.calls(deeds=[EDIT, thing], manners={"A": 7}):
                self.assertEqual(raised(BadDeed, call).index, 1)
        for deeds in ("", None, 7, {}):
            for call in self.calls(deeds=deeds):
                self.assertEqual(raised(BadDeed, call).index, 0)
        # Whether a deed can be done does not count.
        self.assertIsNone(judged(PLAIN, [("edit", "main", [("drop", "none")]), ("choose", "home")], MANNERS, Rule([])))

    def test_manners(self):
        stage = Stage({"main": Tree({"lib/x": ""}), "store": Tree()}, {"home": ("main", "store", "c")})
        for name, manner in [("A", ([], [])), ("lock", ([], [])), ("p", 7), ("p", ([],)), ("p", (["p/x"], []))]:
            for call in self.calls(stage=stage, manners={"lib": ([], []), name: manner}):
                self.assertEqual(raised(BadManner, call).name, name)
        for manners in ([], None, 7):
            for call in [lambda: judged(PLAIN, [], manners, Rule([])), lambda: least_rules(PLAIN, [], manners, [7]),
                         lambda: locked(PLAIN, [], manners, [7]), lambda: least_locks(PLAIN, [], manners, [7])]:
                self.assertIs(raised(BadManner, call).name, manners)

    def test_houses(self):
        shelves = {"main": Tree({"lib/x": ""}), "store": Tree(), "feat": Tree({"app": ""}), "free": Tree({"a": ""})}
        houses = {"z": ("main", "store", "c"), "k": ("store", "feat", "c"), "a": ("store", "free", "c")}
        for call in self.calls(stage=Stage(shelves, houses)):
            self.assertEqual(raised(BadHouse, call).name, "k")
        raised(BadKept, lambda: least_rules(Stage(shelves, {"a": houses["a"]}), [], MANNERS, [7]))


class LimitsTest(unittest.TestCase):
    """Three hundred stages, six steps that hang on one another, rules and locks chosen among eight."""

    NAMES = ["p", "q", "r", "s", "t", "u"]

    def world(self):
        files = {"lock/r": "x", "src/a": "0", "src/b": "0", "src/c/d": "0"}
        got = {"got/x/f": "0", "got/y/f": "0"}
        stage = Stage({"main": Tree(files), "feat": Tree({**files, "src/a": "9"}), "store": Tree(got), "late": Tree()},
                      {"one": ("main", "store", "c"), "two": ("feat", "store", "c"), "tri": ("feat", "late", "d")})
        deeds = [("edit", "main", [("put", "src/a", "1")]), ("edit", "main", [("put", "lock/r", "y")]),
                 ("edit", "store", [("put", "got/x/f", "1")]), ("edit", "store", [("put", "got/y/f", "1")]),
                 ("edit", "feat", [("put", "src/b", "1")]), ("edit", "main", [("put", "src/c/d", "1")]),
                 ("edit", "main", [("drop", "src/b")]), ("edit", "feat", [("put", "src/a", "8")])]
        manners = {}
        for place, name in enumerate(self.NAMES):
            ahead = self.NAMES[:place]
            firsts = [f"{other}/x" for other in ahead[-1:]] + ["lock/r"] + ([] if place else ["src/a"])
            manners[name] = (firsts, [f"{other}/**" for other in ahead[-3:]] + [["src/**", "got/@r/*"][place % 2]])
        return stage, deeds, manners

    def test_many_stages(self):
        stage, deeds, manners = self.world()
        self.assertEqual(len(table(stage, deeds)), 256)
        self.assertIsNone(judged(stage, deeds, manners, Rule(ALL)))
        for rule in (Rule([]), Rule(ALL[:3]), Rule(ALL) & ~Rule([("contents", "t")]), Rule(ALL) & ~Rule([("names", "got")])):
            fault = judged(stage, deeds, manners, rule)
            if fault is not None:
                FaultsTest.holds(self, stage, deeds, manners, rule, fault)
        self.assertIsNotNone(judged(stage, deeds, manners, Rule([])))

    def shows(self, manners, fault):
        FaultsTest.shows(self, manners, fault)

    def runs_of_ways(self, tree, sights):
        return FaultsTest.runs_of_ways(self, tree, sights)

    def test_chosen_among_eight(self):
        stage, deeds, manners = self.world()
        kept = [*ALL, *[("contents", name) for name in ("src", "got", "lock", "p")]]
        found = least_rules(stage, deeds, manners, kept)
        for numbers in found:
            self.assertIsNone(judged(stage, deeds, manners, Rule([kept[k] for k in numbers])))
            for k in numbers:
                self.assertIsNotNone(judged(stage, deeds, manners, Rule([kept[j] for j in numbers if j != k])))
        self.assertIn((0, 1, 2, 3), found)
        patterns = ["src/*", "src/**", "got/@r/*", "got/**", "lock/*", "**", "src/c/*", "src/a"]
        found = least_locks(stage, deeds, manners, patterns)
        self.assertIn((5,), found)
        for numbers in found:
            self.assertIsNone(locked(stage, deeds, manners, [patterns[k] for k in numbers]))
            for k in numbers:
                self.assertIsNotNone(locked(stage, deeds, manners, [patterns[j] for j in numbers if j != k]))


if __name__ == "__main__":
    unittest.main()
