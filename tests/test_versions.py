"""Ranges (7.1)."""

import itertools
import unittest

from noteshold.errors import BadRange, BadText
from noteshold.versions import Range
from tests.worlds import odd_things

ALL = set(range(1, 21))
# All sets of the versions 1 to 4, beside one of others.
SOME = [set(part) | rest for size in range(5) for part in itertools.combinations((1, 2, 3, 4), size)
        for rest in (set(), {6}, {5, 7, 8}, {19, 20}, set(range(5, 21)))]


def range_of(versions):
    return Range([(n, n) for n in sorted(versions, reverse=True)])


class RangeTest(unittest.TestCase):
    def test_versions(self):
        span = Range([(3, 5), [1, 1], (5, 7), (20, 20)])
        self.assertEqual([n for n in range(-1, 25) if n in span], [1, 3, 4, 5, 6, 7, 20])
        self.assertEqual(len(span), 7)
        self.assertEqual((len(Range(spans=())), len(Range([(1, 20)]))), (0, 20))

    def test_contains(self):
        for thing in odd_things() + [21, "1", (1, 2), (1,), [1], "1-2"]:
            if thing != 1 or thing is True:
                self.assertFalse(thing in Range([(1, 20)]), thing)

    def test_bad_spans(self):
        for thing in odd_things() + [(2, 1), (0, 1), (20, 21), (1, True), (True, 2), (1,), (1, 2, 3), ("1", "2"),
                                     (-1, 1), (None, 2), 5, "12"]:
            with self.assertRaises(BadRange) as caught:
                Range([(1, 2), thing, 0])
            self.assertEqual(caught.exception.index, 1)
        for spans in odd_things():
            if not isinstance(spans, (list, tuple)):
                with self.assertRaises(BadRange) as caught:
                    Range(spans)
                self.assertEqual(caught.exception.index, 0)

    def test_spans_are_the_fewest(self):
        for some in SOME:
            spans = range_of(some).spans()
            self.assertEqual(sorted(n for low, high in spans for n in range(low, high + 1)), sorted(some))
            self.assertTrue(all(one[1] + 1 < other[0] for one, other in zip(spans, spans[1:])))
            self.assertTrue(all(isinstance(pair, tuple) for pair in spans))
        self.assertEqual(Range([(4, 6), (1, 2), (3, 3), (6, 9), (11, 11)]).spans(), [(1, 9), (11, 11)])

    def test_signs(self):
        for one, other in itertools.product(SOME, SOME):
            first, second = range_of(one), range_of(other)
            for told, some in [(first | second, one | other), (first & second, one & other), (first - second, one - other)]:
                self.assertEqual({n for n in range(1, 21) if n in told}, some)
            self.assertEqual(first == second, one == other)
            self.assertEqual(first != second, one != other)
        for one in SOME:
            self.assertEqual({n for n in range(1, 21) if n in ~range_of(one)}, ALL - one)

    def test_equal(self):
        self.assertTrue(Range([(1, 2), (3, 4)]) == Range([(1, 4)]))
        for thing in odd_things() + [[(1, 2)], {1, 2}]:
            if not isinstance(thing, Range):
                self.assertFalse(Range([(1, 2)]) == thing)
                self.assertTrue(Range([]) != thing)

    def test_later_changes(self):
        pair = [1, 2]
        spans = [pair]
        span = Range(spans)
        pair[1] = 9
        spans.append((11, 12))
        span.spans().append((15, 16))
        self.assertEqual(span, Range([(1, 2)]))


class RangeTextTest(unittest.TestCase):
    def test_text(self):
        for spans, text in [([], "none"), ([(1, 20)], "all"), ([(7, 7)], "7"), ([(10, 12)], "10-12"),
                            ([(1, 1), (3, 4), (20, 20)], "1,3-4,20"), ([(1, 19)], "1-19"), ([(1, 10), (11, 20)], "all")]:
            self.assertEqual(Range(spans).text(), text)
            self.assertEqual(Range.read(text=text), Range(spans))

    def test_read_of_text(self):
        for some in SOME:
            self.assertEqual(Range.read(range_of(some).text()), range_of(some))

    def test_bad_texts(self):
        for thing in odd_things() + ["1-20", "1,2", "2-1", "1-1", "01", "1-02", "0", "21", "1,", ",1", "1-", "-1", "1--2",
                                     "3,1", "1-2,2-3", "1-2,3", "none,1", "all,1", "1,all", " 1", "1 ", "1, 3", "1-2-3",
                                     "ALL", "None", "1\n", "+1", "1_0", "1.0", (1, 2), 1, 20]:
            with self.assertRaises(BadText) as caught:
                Range.read(thing)
            self.assertEqual(caught.exception.line, 1)


if __name__ == "__main__":
    unittest.main()
