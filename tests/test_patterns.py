"""Patterns (3.10)."""

import itertools
import unittest

from noteshold.errors import BadPath, BadPattern
from noteshold.patterns import matches, missed, shared
from tests.worlds import odd_things

PARTS = ("a", "b", "*", "**")
SMALL = ["/".join(parts) for size in (1, 2, 3) for parts in itertools.product(PARTS, repeat=size)]
# The name c stands for all that no pattern here has.
PATHS = ["/".join(names) for size in (1, 2, 3, 4, 5) for names in itertools.product("abc", repeat=size)]


def told_by_hand(parts, names):
    """Whether the parts can stand for the names, by trying all."""
    if not parts:
        return not names
    if parts[0] == "**":
        return any(told_by_hand(parts[1:], names[k:]) for k in range(len(names) + 1))
    return bool(names) and parts[0] in ("*", names[0]) and told_by_hand(parts[1:], names[1:])


def bits_of(pattern):
    parts = pattern.split("/")
    return sum(1 << k for k, path in enumerate(PATHS) if told_by_hand(parts, path.split("/")))


BITS = {pattern: bits_of(pattern) for pattern in SMALL}


def fewest(bits):
    """The number of names of a shortest of these paths, None if there is none."""
    for k, path in enumerate(PATHS):
        if bits >> k & 1:
            return path.count("/") + 1
    return None


def many_names(path):
    return None if path is None else path.count("/") + 1


def no_patterns():
    return [thing for thing in odd_things() if thing != "read"] + [
        "***", "a/***", "*a", "a*", "a/b/c/d/e/f/g", "*/", "/*", "**/", "a//**", "A", "@x", "a/@x", "?"]


class MatchesTest(unittest.TestCase):
    def test_small_world(self):
        for pattern in SMALL:
            for k, path in enumerate(PATHS):
                self.assertIs(matches(pattern, path), BITS[pattern] >> k & 1 == 1, (pattern, path))

    def test_longer_ones(self):
        for pattern, path, truth in [("a/**/b/*/c/**", "a/b/x/c", True), ("a/**/b/*/c/**", "a/b/c", False),
                                     ("**/**/**/**/**/**", "a", True), ("*/*/*/*/*/*", "a/b/c/d/e", False),
                                     ("**/b", "a/a/a/a/a/a/a/a/b", True), ("a/b", "a/b/c", False)]:
            self.assertIs(matches(pattern=pattern, path=path), truth)

    def test_errors(self):
        for thing in no_patterns():
            with self.assertRaises(BadPattern) as caught:
                matches(thing, "")
            self.assertIs(caught.exception.thing, thing)
        for path in odd_things():
            if path != "read":
                with self.assertRaises(BadPath) as caught:
                    matches("**", path)
                self.assertIs(caught.exception.path, path)


class MissedTest(unittest.TestCase):
    def check(self, patterns, pattern):
        path = missed(patterns, pattern)
        bits = BITS[pattern]
        for one in patterns:
            bits &= ~BITS[one]
        self.assertEqual(many_names(path), fewest(bits), (patterns, pattern, path))
        if path is not None:
            self.assertTrue(matches(pattern, path))
            self.assertFalse(any(matches(one, path) for one in patterns))

    def test_all_pairs(self):
        for pattern in SMALL:
            self.check([], pattern)
            for other in SMALL:
                self.check([other], pattern)

    def test_more_patterns(self):
        for number, patterns in enumerate(itertools.combinations(SMALL, 2)):
            for pattern in SMALL[number % 7::7]:
                self.check(patterns, pattern)
        for number, patterns in enumerate(itertools.combinations(SMALL[::2], 3)):
            self.check(patterns, SMALL[number % len(SMALL)])

    def test_all_names_count(self):
        letters = "abcdefghijklmnopqrstuvwxyz0123456789"
        some = list(letters[:5])
        path = missed(some, "*")
        self.assertNotIn(path, some)
        self.assertEqual(missed(["x0", "x1", "x2"], "*") in ("x0", "x1", "x2"), False)
        self.assertIsNone(missed(["a/**", "**"], "*/*/a"))

    def test_many_states(self):
        windows = [f"**/{name}/*/*/*/*" for name in "abcd"]
        self.assertIsNone(missed([*windows, "**/e/*/*/*/*"], "**/e/*/*/*/*"))
        self.assertEqual(many_names(missed(windows, "**/e/*/*/*/*")), 5)

    def test_errors(self):
        for thing in no_patterns():
            with self.assertRaises(BadPattern) as caught:
                missed(["a", thing, "A"], "A")
            self.assertIs(caught.exception.thing, thing)
            with self.assertRaises(BadPattern) as caught:
                missed(patterns=["a"], pattern=thing)
            self.assertIs(caught.exception.thing, thing)
        for patterns in odd_things():
            if not isinstance(patterns, (list, tuple)):
                with self.assertRaises(BadPattern) as caught:
                    missed(patterns, "A")
                self.assertIs(caught.exception.thing, patterns)


class SharedTest(unittest.TestCase):
    def test_all_pairs(self):
        for one, other in itertools.product(SMALL, SMALL):
            path = shared(one, other)
            self.assertEqual(many_names(path), fewest(BITS[one] & BITS[other]), (one, other))
            if path is not None:
                self.assertTrue(matches(one, path) and matches(other, path))

    def test_longer_ones(self):
        self.assertEqual(shared("a/**/b/c/*/*", "*/*/*/*/*/*").count("/"), 5)
        self.assertEqual(shared(one="a/*/c/*/e/*", other="*/b/*/d/*/f"), "a/b/c/d/e/f")

    def test_errors(self):
        for thing in no_patterns():
            with self.assertRaises(BadPattern) as caught:
                shared(thing, "A")
            self.assertIs(caught.exception.thing, thing)
            with self.assertRaises(BadPattern) as caught:
                shared("a", thing)
            self.assertIs(caught.exception.thing, thing)


if __name__ == "__main__":
    unittest.main()
