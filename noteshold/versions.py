"""Ranges of versions."""

from noteshold.errors import BadRange, BadText
from noteshold.plain import is_integer, is_list

LOWEST = 1
HIGHEST = 20


def all_versions():
    return list(range(LOWEST, HIGHEST + 1))


def is_version(thing):
    return is_integer(thing) and LOWEST <= thing <= HIGHEST


def version_of(word):
    """The version with these figures, None if there is none."""
    for version in all_versions():
        if str(version) == word:
            return version
    return None


class Range:
    """A set of versions."""

    def __init__(self, spans):
        told = checked_spans(spans)
        self._versions = [n for n in all_versions() if any([low <= n <= high for low, high in told])]

    def spans(self):
        lows = [n for n in self._versions if n - 1 not in self._versions]
        highs = [n for n in self._versions if n + 1 not in self._versions]
        return list(zip(lows, highs))

    def text(self):
        if len(self._versions) == 0:
            return "none"
        if self._versions == all_versions():
            return "all"
        return ",".join([str(low) if low == high else f"{low}-{high}" for low, high in self.spans()])

    @staticmethod
    def read(text):
        span = range_read(text)
        if span is None:
            raise BadText(1)
        return span

    def __or__(self, other):
        if not isinstance(other, Range):
            return NotImplemented
        return range_of([n for n in all_versions() if n in self._versions or n in other._versions])

    def __and__(self, other):
        if not isinstance(other, Range):
            return NotImplemented
        return range_of([n for n in self._versions if n in other._versions])

    def __sub__(self, other):
        if not isinstance(other, Range):
            return NotImplemented
        return range_of([n for n in self._versions if n not in other._versions])

    def __invert__(self):
        return range_of([n for n in all_versions() if n not in self._versions])

    def __len__(self):
        return len(self._versions)

    def __contains__(self, x):
        return is_version(x) and x in self._versions

    def __eq__(self, other):
        return isinstance(other, Range) and self._versions == other._versions


def range_of(versions):
    return Range([(n, n) for n in versions])


def checked_spans(spans):
    """The list of the pairs of versions itself."""
    if not is_list(spans):
        raise BadRange(0)
    for k, pair in enumerate(spans):
        if not is_span(pair):
            raise BadRange(k)
    return spans


def is_span(thing):
    if not is_list(thing) or len(thing) != 2:
        return False
    return is_version(thing[0]) and is_version(thing[1]) and thing[0] <= thing[1]


def range_read(text):
    """The range with this text, None for any object that is the text of none."""
    if not isinstance(text, str):
        return None
    spans = [] if text == "none" else [span_read(word) for word in text.split(",")]
    if text == "all":
        spans = [(LOWEST, HIGHEST)]
    if not all([is_span(pair) for pair in spans]):
        return None
    # One range can be told by several rows of spans, but has one text alone.
    found = Range(spans)
    return found if found.text() == text else None


def span_read(word):
    """A pair of what stands on both sides of a hyphen, twice the same where there is none."""
    low, hyphen, high = word.partition("-")
    return (version_of(low), version_of(high if hyphen else low))
