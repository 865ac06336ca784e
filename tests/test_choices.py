"""Right and lean choices, what is lit, and the order (7.5, 7.6)."""

import time
import unittest

from noteshold.choices import choice_at, choices, first, how_many, is_lean, is_right, lit, number_of, spread
from noteshold.errors import BadChoice, BadNumber, BadWish
from noteshold.index import Index, Row
from noteshold.versions import Range
from tests.packages import all_choices, is_lean_there, is_right_there, lean_there, lit_there, loose_packages
from tests.packages import some_packages, wide_packages
from tests.worlds import odd_things, raised

ALL = Range([(1, 20)])
WORLDS = [(loose_packages if seed % 3 == 0 else some_packages)(seed, 2 + seed % 2, 1 + seed % 3) for seed in range(250)]


def only(version):
    return Range([(version, version)])


class AllChoicesTest(unittest.TestCase):
    def test_right_lean_and_lit(self):
        found = [0, 0]
        for index, wishes in WORLDS:
            for choice in all_choices(index):
                self.assertEqual(lit(index, wishes, choice), sorted(lit_there(index, wishes, choice)))
                told = (is_right_there(index, wishes, choice), is_lean_there(index, wishes, choice))
                self.assertEqual((is_right(index, wishes, choice), is_lean(index, wishes, choice)), told)
                found = [found[k] + told[k] for k in range(2)]
        self.assertGreater(min(found), 50)

    def test_lists_of_lean_ones(self):
        for index, wishes in WORLDS:
            told = lean_there(index, wishes)
            found = choices(index, wishes)
            self.assertEqual(found, told)
            self.assertTrue(all(list(choice) == sorted(choice) for choice in found + [first(index, wishes) or {}]))
            self.assertEqual(how_many(index, wishes), len(told))
            self.assertEqual(first(index, wishes), told[0] if told else None)
            for number, choice in enumerate(told):
                self.assertEqual(number_of(index, wishes, choice), number)
                self.assertEqual(choice_at(index, wishes, number), choice)
            self.assertIsNone(choice_at(index, wishes, len(told)))
            for choice in all_choices(index):
                if choice not in told:
                    self.assertEqual(raised(BadChoice, lambda: number_of(index, wishes, choice)).choice, choice)

    def test_spread(self):
        for index, wishes in WORLDS:
            told = lean_there(index, wishes)
            found = {}
            for package in sorted({package for choice in told for package in choice}):
                versions = {choice[package] for choice in told if package in choice}
                lacks = [None] if any(package not in choice for choice in told) else []
                found[package] = sorted(versions, reverse=True) + lacks
            self.assertEqual(spread(index, wishes), found)
            self.assertEqual(list(spread(index, wishes)), list(found))


class EdgesTest(unittest.TestCase):
    def test_no_wishes(self):
        for index in [Index(), Index({("a", 1): Row(clashes=[("a", ALL)])})]:
            self.assertEqual((first(index, []), choices(index, ()), how_many(index, [])), ({}, [{}], 1))
            self.assertEqual((spread(index, []), lit(index, [], {}), number_of(index, [], {})), ({}, [], 0))
            self.assertTrue(is_lean(index=index, wishes=[], choice={}))

    def test_need_without_a_version_that_fits(self):
        need = (None, [("b", only(2)), ("c", ALL)], [])
        index = Index({("a", 1): Row(needs=[need]), ("b", 1): Row()})
        wishes = [("a", ALL, [])]
        self.assertEqual((first(index, wishes), choices(index, wishes), spread(index, wishes)), (None, [], {}))
        self.assertFalse(is_right(index, wishes, {"a": 1, "b": 1}))
        self.assertIsNone(first(index, [("z", ALL, [])]))
        self.assertIsNone(first(index, [("b", Range([]), [])]))
        self.assertIsNone(choice_at(index, wishes, 0))

    def test_rows_that_bar_themselves(self):
        index = Index({("a", 1): Row(clashes=[("a", only(1))]), ("a", 2): Row(clashes=[("a", only(1))])})
        self.assertFalse(is_right(index, [], {"a": 1}))
        self.assertEqual(choices(index, [("a", ALL, [])]), [{"a": 2}])
        self.assertIsNone(first(index, [("a", only(1), [])]))

    def test_own_package_as_an_option(self):
        index = Index({("a", 2): Row(needs=[(None, [("a", only(2))], [])]), ("a", 3): Row(needs=[(None, [("a", only(2))], [])])})
        self.assertEqual(choices(index, [("a", ALL, [])]), [{"a": 2}])

    def test_features(self):
        asking = Row(["deep"], [("deep", [("b", ALL)], ["fast"]), (None, [("c", ALL)], [])])
        index = Index({("a", 1): asking, ("b", 2): Row(), ("b", 1): Row(["fast"]), ("c", 1): Row(), ("c", 2): Row(["x"])})
        self.assertEqual(first(index, [("a", ALL, [])]), {"a": 1, "c": 2})
        self.assertEqual(first(index, [("a", ALL, ["deep"])]), {"a": 1, "b": 1, "c": 2})
        self.assertEqual(lit(index, [("a", ALL, ["deep"])], {"a": 1}), [("a", "deep"), ("b", "fast")])
        self.assertIsNone(first(index, [("a", ALL, ["wide"])]))
        self.assertEqual(spread(index, [("a", ALL, ["deep"])]), {"a": [1], "b": [1], "c": [2, 1]})

    def test_lit_is_as_little_as_can_be(self):
        # Each of two needs would be live by what the other one asks.
        one = Row(["f"], [("f", [("b", ALL)], ["f"])])
        other = Row(["f"], [("f", [("a", ALL)], ["f"])])
        index = Index({("a", 1): one, ("b", 1): other})
        self.assertEqual(lit(index, [], {"a": 1, "b": 1}), [])
        self.assertEqual(lit(index, [("b", ALL, ["f"])], {"a": 1, "b": 1}), [("a", "f"), ("b", "f")])
        self.assertEqual(choices(index, [("a", ALL, [])]), [{"a": 1}])

    def test_needs_of_more_options_ask_nothing_and_lean_ones_may_differ(self):
        both = Row(needs=[(None, [("b", ALL), ("c", ALL)], [])])
        index = Index({("a", 1): both, ("b", 1): Row(), ("b", 2): Row(), ("c", 1): Row()})
        wishes = [("a", ALL, [])]
        self.assertEqual(choices(index, wishes), [{"a": 1, "c": 1}, {"a": 1, "b": 2}, {"a": 1, "b": 1}])
        self.assertEqual(spread(index, wishes), {"a": [1], "b": [2, 1, None], "c": [1, None]})
        self.assertTrue(is_right(index, wishes, {"a": 1, "b": 1, "c": 1}))
        self.assertFalse(is_lean(index, wishes, {"a": 1, "b": 1, "c": 1}))

    def test_order_of_wishes(self):
        index = Index({(name, version): Row() for name in "ab" for version in (1, 2)})
        told = [{"a": 2, "b": 2}, {"a": 1, "b": 2}, {"a": 2, "b": 1}, {"a": 1, "b": 1}]
        self.assertEqual(choices(index, [("b", ALL, []), ("a", ALL, []), ("b", ALL, [])]), told)

    def test_a_need_that_another_package_meets(self):
        # Found by the option c first, a choice with b is right without c, as b is needed by itself.
        rows = {("a", 1): Row(needs=[(None, [("c", ALL), ("b", ALL)], []), (None, [("b", ALL)], [])]),
                ("b", 1): Row(), ("c", 1): Row()}
        self.assertEqual(choices(Index(rows), [("a", ALL, [])]), [{"a": 1, "b": 1}])


class WrongInputsTest(unittest.TestCase):
    def setUp(self):
        self.index, self.wishes = Index({("a", 1): Row(), ("a", 2): Row()}), [("a", ALL, [])]

    def test_no_choices(self):
        for thing in odd_things() + [{"a": 3}, {"b": 1}, {"a": True}, {"A": 1}, {1: 1}, {"a": None}, {None: None}]:
            if thing != {}:
                self.assertFalse(is_right(self.index, self.wishes, thing))
                self.assertFalse(is_lean(self.index, [], thing))
                self.assertIs(raised(BadChoice, lambda: lit(self.index, self.wishes, thing)).choice, thing)
                self.assertIs(raised(BadChoice, lambda: number_of(self.index, [], thing)).choice, thing)
        self.assertEqual(raised(BadChoice, lambda: number_of(self.index, self.wishes, {})).choice, {})

    def test_no_numbers(self):
        for thing in [-1, True, False, None, "0", [], (0,), {}]:
            self.assertIs(raised(BadNumber, lambda: choice_at(self.index, self.wishes, thing)).number, thing)

    def test_bad_wishes_ahead_of_all_else(self):
        calls = [lambda wishes: is_right(self.index, wishes, None), lambda wishes: is_lean(self.index, wishes, None),
                 lambda wishes: lit(self.index, wishes, None), lambda wishes: number_of(self.index, wishes, None),
                 lambda wishes: choice_at(self.index, wishes, None), lambda wishes: first(self.index, wishes),
                 lambda wishes: choices(self.index, wishes), lambda wishes: how_many(self.index, wishes),
                 lambda wishes: spread(self.index, wishes)]
        for call in calls:
            self.assertEqual(raised(BadWish, lambda: call([("a", ALL, ()), ("a", ALL), 0])).index, 1)
            for thing in [None, {}, "a", 0]:
                self.assertEqual(raised(BadWish, lambda: call(thing)).index, 0)


class TimeTest(unittest.TestCase):
    def test_six_packages_with_five_versions(self):
        start = time.monotonic()
        index, wishes = wide_packages()
        self.assertEqual(how_many(index, wishes), 3125)
        every = [(name, ALL, []) for name in "abcdef"]
        self.assertEqual(len(choices(Index({place: Row() for place in [(n, v) for n in "abcdef" for v in range(1, 6)]}), every)),
                         15625)
        self.assertLess(time.monotonic() - start, 20)


if __name__ == "__main__":
    unittest.main()
