"""Small worlds of packages, and what the document says of choices there, told word by word."""

import itertools
import random

from noteshold.index import Index, Row
from noteshold.versions import Range

FEATURES = ["f", "g"]


def some_range(chance, top):
    low = chance.randint(1, top)
    found = Range([(low, chance.randint(low, top))])
    if chance.random() < 0.3:
        other = chance.randint(1, top)
        found = found | Range([(other, other)])
    return found


def some_row(chance, names, top):
    features = [name for name in FEATURES if chance.random() < 0.6]
    needs = []
    for _ in range(chance.choice([0, 0, 1, 1, 2])):
        packages = chance.sample(names, min(len(names), chance.choice([1, 1, 2, 3])))
        asks = [name for name in FEATURES if len(packages) == 1 and chance.random() < 0.3]
        needs.append((chance.choice([None] + features), [(name, some_range(chance, top)) for name in packages], asks))
    clashes = [(chance.choice(names), some_range(chance, top)) for _ in range(chance.choice([0, 0, 0, 1]))]
    return Row(features, needs, clashes)


def some_packages(seed, packages=3, versions=2):
    """An index of few packages, and wishes, by a source of chance with a fixed seed."""
    chance = random.Random(seed)
    names = ["a", "b", "c", "d"][:packages]
    top = versions + 1
    rows = {}
    for name in names:
        for version in chance.sample(range(1, top + 1), chance.randint(0, versions)):
            rows[name, version] = some_row(chance, names, top)
    wishes = [(chance.choice(names), some_range(chance, top), [name for name in FEATURES if chance.random() < 0.2])
              for _ in range(chance.choice([0, 1, 1, 2, 2, 3]))]
    return Index(rows), wishes


def loose_packages(seed, packages=3, versions=2):
    """As some_packages, but most choices are right here."""
    chance = random.Random(seed)
    names = ["a", "b", "c", "d"][:packages]
    rows = {}
    for name in names:
        others = [other for other in names if other != name]
        for version in range(1, versions + 1):
            needs = []
            for _ in range(chance.choice([0, 0, 1, 1, 2])):
                told = chance.sample(others, min(len(others), chance.choice([1, 2])))
                needs.append((None, [(other, some_range(chance, versions + 1)) for other in told], []))
            clashes = [(chance.choice(others), some_range(chance, 2)) for _ in range(chance.choice([0, 0, 0, 1]))]
            rows[name, version] = Row(needs=needs, clashes=clashes)
    wishes = [(name, chance.choice([Range([(1, 20)]), some_range(chance, versions)]), [])
              for name in chance.sample(names, chance.choice([1, 1, 2]))]
    return Index(rows), wishes


def all_choices(index):
    names = index.packages()
    for row in itertools.product(*[[None] + index.versions(name) for name in names]):
        yield {name: version for name, version in zip(names, row) if version is not None}


def lit_there(index, wishes, choice):
    lit = {(package, name) for package, _, asks in wishes for name in asks}
    while True:
        more = set(lit)
        for package, version in choice.items():
            for when, options, asks in index[package, version].needs:
                if len(options) == 1 and (when is None or (package, when) in lit):
                    more |= {(options[0][0], name) for name in asks}
        if more == lit:
            return lit
        lit = more


def is_right_there(index, wishes, choice):
    lit = lit_there(index, wishes, choice)
    if not all(choice.get(package) in span for package, span, _ in wishes):
        return False
    for package, version in choice.items():
        row = index[package, version]
        for when, options, _ in row.needs:
            if when is None or (package, when) in lit:
                if not any(choice.get(other) in span for other, span in options):
                    return False
        if any(choice.get(other) in span for other, span in row.clashes):
            return False
        if any(other == package and name not in row.features for other, name in lit):
            return False
    return True


def is_lean_there(index, wishes, choice):
    parts = [dict(part) for many in range(len(choice)) for part in itertools.combinations(choice.items(), many)]
    return is_right_there(index, wishes, choice) and not any(is_right_there(index, wishes, part) for part in parts)


def rank_there(index, wishes, choice):
    """What is less for choices that are ahead."""
    order = list(dict.fromkeys([package for package, _, _ in wishes] + index.packages()))
    return [(package in choice, -choice.get(package, 0)) for package in order]


def lean_there(index, wishes):
    found = [choice for choice in all_choices(index) if is_lean_there(index, wishes, choice)]
    return sorted(found, key=lambda choice: rank_there(index, wishes, choice))


def best_there(index, wishes, lock=None):
    """The outcome of first, or of upgrade for a lock."""
    found = lean_there(index, wishes)
    if lock is not None:
        found = sorted(found, key=lambda choice: sum(lock.get(name) != choice[name] for name in choice))
    return found[0] if found else None


def wide_packages():
    """Six packages with five versions each, with needs of three options."""
    every = Range([(1, 20)])
    names = ["a", "b", "c", "d", "e", "f"]
    rows = {}
    for place, name in enumerate(names):
        for version in range(1, 6):
            options = [(other, every) for other in names[place + 1:place + 4]]
            rows[name, version] = Row(needs=[(None, options, [])] if options else [])
    return Index(rows), [(name, every, []) for name in names[:4]]
