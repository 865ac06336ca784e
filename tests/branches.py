"""Small worlds of shelves, houses, deeds and manners, and what the document says of rules there, told word by word."""

import itertools
import random

from noteshold.plain import is_name
from noteshold.rules import SORTS, Rule
from noteshold.sights import sort_of
from noteshold.stages import Stage
from noteshold.steps import Step
from noteshold.trees import Tree, touched
from noteshold.workshop import Workshop

WORKS = [{"src/a": "0"}, {"src/a": "1", "src/b": "0"}, {"src": "0"}, {"src/b/c": "0"}, {"lock/r": "x", "src/a": "0"},
         {"lock/r": "y", "src/a": "0"}, {}]
STORES = [{}, {"got/x/f": "0"}, {"got/x/f": "1", "got/y/f": "0"}, {"got/y/f": "1"}]
EDITS = [[("put", "src/a", "1")], [("put", "src/a", "0")], [("drop", "src/a")], [("put", "src/b/c", "1")],
         [("put", "lock/r", "y")], [("put", "lock/r", "no name")], [("put", "got/x/f", "2")], [("drop", "got/x/f")],
         [("put", "src/a", "2"), ("drop", "src/a")], [("put", "p/x", "0")]]
SOURCE_FIRSTS = ["src/a", "src", "lock/r", "got/x/f", "src/b/c"]
SOURCE_PATTERNS = ["src/*", "src/**", "got/@r/f", "got/**", "src/b", "lock/*", "got/*/f"]


def some_stage(chance):
    shelves = {"main": Tree(chance.choice(WORKS)), "feat": Tree(chance.choice(WORKS)),
               "store": Tree(chance.choice(STORES)), "late": Tree(chance.choice(STORES))}
    houses = {"one": ("main", "store", "c"), "two": (chance.choice(["main", "feat"]), chance.choice(["store", "late"]),
                                                     chance.choice(["c", "c", "d"]))}
    return Stage(shelves, houses)


def some_deeds(chance, many=4):
    deeds = []
    for _ in range(chance.randint(1, many)):
        word = chance.choice(["edit", "edit", "edit", "copy", "move"])
        if word == "edit":
            changes = chance.choice(EDITS)
            shelf = chance.choice(["store", "late"] if changes[0][1].startswith("got") else ["main", "feat"])
            deeds.append(("edit", shelf, changes))
        elif word == "copy":
            deeds.append(("copy", *chance.choice([("main", "feat"), ("feat", "main"), ("late", "store"), ("store", "late")])))
        else:
            slot = chance.choice([0, 1])
            deeds.append(("move", chance.choice(["one", "two"]), slot,
                          chance.choice([["main", "feat"], ["store", "late"]][slot])))
    return deeds


def some_manners(chance, most=3):
    names = ["p", "q", "r"][:chance.randint(1, most)]
    manners = {}
    for place, name in enumerate(names):
        firsts = chance.sample(SOURCE_FIRSTS, chance.choice([0, 0, 1, 2]))
        patterns = chance.sample(SOURCE_PATTERNS, chance.choice([0, 0, 1, 1, 2]))
        for other in names[:place]:
            firsts += chance.choice([[], [], [other + "/x"], [other + "/x/y"], [other]])
            patterns += chance.choice([[], [], [other + "/**"], [other + "/x"], [other + "/*"], [other]])
        if "got/@r/f" in patterns and "lock/r" not in firsts:
            firsts.append("lock/r")
        manners[name] = (firsts, patterns)
    told = list(manners)
    chance.shuffle(told)
    return {name: manners[name] for name in told}


def some_pairs(chance):
    """Pairs that a rule keeps: mostly all of three sorts, and some paths more."""
    pairs = [(sort, None) for sort in SORTS if chance.random() < 0.6]
    for _ in range(chance.randint(0, 4)):
        pair = (chance.choice(SORTS), chance.choice(["src", "lock", "got", "p", "q", "src/a", "p/x", "lock/r", "q/x"]))
        if pair not in pairs:
            pairs.append(pair)
    return pairs


def some_rule(chance):
    rule = Rule(some_pairs(chance))
    if chance.random() < 0.5:
        rule = rule & ~Rule([(chance.choice(SORTS), chance.choice(["p/x", "p", "src/a", "q/x", "q", "src/b/c", "p/x/y"]))])
    return rule


def matches_there(pattern, path):
    """Whether a pattern matches a path, told in lists of parts."""
    if not pattern:
        return not path
    if pattern[0] == "**":
        return any(matches_there(pattern[1:], path[k:]) for k in range(len(path) + 1))
    return bool(path) and pattern[0] in ("*", path[0]) and matches_there(pattern[1:], path[1:])


def closed_there(patterns, tree):
    found = []
    for pattern in patterns:
        parts = [tree.answer(("read", "lock/" + part[1:])) if part.startswith("@") else part for part in pattern.split("/")]
        if all(part in ("*", "**") or is_name(part) for part in parts):
            found.append(parts)
    return found


def is_matched_there(patterns, path, tree):
    return any(matches_there(parts, path.split("/")) for parts in closed_there(patterns, tree))


# Of paths beneath a step, what rules, firsts and patterns here tell of them, and one more of each kind.
INNER = ["", "/x", "/x/y", "/z", "/x/z", "/z/z", "/z/z/z"]


def looks_at_step(manners, name, other, tree):
    """The looks by which a step sees another one in a tree, as far as anybody here tells them apart."""
    firsts, patterns = manners[name]
    found = [("read", first) for first in firsts if first.startswith(other + "/")]
    for inner in INNER:
        path = other + inner
        if is_matched_there(patterns, path, tree):
            found += [("list", path)] + ([("read", path)] if inner else [])
    return found


def source_looks(manners, name, one, other):
    """The looks of source paths of a step that are answered unlike in two trees, those of its firsts ahead."""
    firsts, patterns = manners[name]
    unlike = [look for look in touched(one, other) if look[1].split("/")[0] not in manners]
    return ([look for look in unlike if look[0] == "read" and look[1] in firsts]
            + [look for look in unlike if is_matched_there(patterns, look[1], one)])


def sways_there(manners, name, one, other, pinned):
    if source_looks(manners, name, one, other):
        return True
    return any(look not in [("read", path) for path in pinned] and sways_there(manners, step, one, other, pinned)
               for step in manners for look in looks_at_step(manners, name, step, one))


def is_misled_there(manners, rule, name, one, other):
    firsts = manners[name][0]

    def keeps(look):
        return rule.has(sort_of((look, one.answer(look))), look[1])

    own = [("read", first) for first in firsts if first.split("/")[0] not in manners]
    if any(keeps(look) and one.answer(look) != other.answer(look) for look in own):
        return False
    if any(not keeps(look) for look in source_looks(manners, name, one, other)):
        return True
    pinned = [first for first in firsts if first.split("/")[0] in manners
              and rule.has("contents", first) and rule.has("lacking", first)]
    for step in manners:
        for look in looks_at_step(manners, name, step, one):
            sorts = ("contents", "lacking") if look[0] == "read" else ("names", "nofolder")
            if not all(rule.has(sort, look[1]) for sort in sorts) and sways_there(manners, step, one, other, pinned):
                return True
    return False


def has_barred(stage, manners):
    return any(first in manners for house in stage.houses() for first in stage.sources(house).firsts())


def rows_of_stages(stage, deeds, manners):
    """All stages behind rows of the deeds, each once: triples (stage, fewest deeds, numbers of those behind a deed)."""
    found = [[stage, 0, []]]
    place = 0
    while place < len(found):
        for deed in deeds:
            try:
                there = found[place][0].after([deed])
            except ValueError:
                continue
            if has_barred(there, manners):
                continue
            same = [k for k, row in enumerate(found) if row[0] == there]
            if not same:
                found.append([there, found[place][1] + 1, []])
            found[place][2].append(same[0] if same else len(found) - 1)
        place += 1
    return found


def far_behind(rows, start):
    """The dict from the stages that come behind one to the fewest deeds that lead to them."""
    found, line = {start: 0}, [start]
    while line:
        here = line.pop(0)
        for other in rows[here][2]:
            if other not in found:
                found[other] = found[here] + 1
                line.append(other)
    return found


def pairs_of_moments(rows):
    """All pairs of moments: (deeds in all, first stage's number, house, second one's number, house)."""
    for start, (stage, deeds, _) in enumerate(rows):
        for end, more in far_behind(rows, start).items():
            for house, other in itertools.product(stage.houses(), repeat=2):
                yield deeds + more, start, house, end, other


def some_step_of_manner(chance, manners, name):
    """A step that keeps to its manner, by chance: it reads its firsts, and looks then at what it likes."""
    firsts, patterns = manners[name]
    return Step(first_choices(chance, [("read", first) for first in firsts], {}, patterns, [name]))


def first_choices(chance, looks, seen, patterns, above):
    if not looks:
        return further_choices(chance, seen, patterns, chance.choice([0, 1, 1, 2]))
    answers = [None] + chance.sample(["0", "1", "2", "x", "y"], 2)
    cases = [(answer, first_choices(chance, looks[1:], {**seen, looks[0]: answer}, patterns, above)) for answer in answers]
    return ("ask", looks[0], cases, first_choices(chance, looks[1:], {**seen, looks[0]: "?"}, patterns, above))


ENDS = [[], [("x", "1")], [("x", "2")], [("x/y", "1")], [("z", "1")], [("z/z", "2")]]
PATHS = ["src", "src/a", "src/b", "src/b/c", "got", "got/x", "got/x/f", "got/y/f", "lock/r", "p", "p/x", "p/z", "p/x/y",
         "q", "q/x", "q/z", "r/x"]


def further_choices(chance, seen, patterns, depth):
    text = seen.get(("read", "lock/r"))
    tree = Tree({} if text is None else {"lock/r": text})
    looks = [(word, path) for path in PATHS for word in ("read", "list")
             if (word, path) not in seen and is_matched_there(patterns, path, tree)]
    if depth == 0 or not looks:
        return ("end", chance.choice("ab"), chance.choice(ENDS))
    look = chance.choice(looks)
    answers = [None] + (chance.sample(["0", "1", "2"], 2) if look[0] == "read" else [("x",), ("a",), ("x", "z"), ("f",)])
    cases = [(answer, further_choices(chance, {**seen, look: answer}, patterns, depth - 1)) for answer in answers]
    return ("ask", look, cases, further_choices(chance, {**seen, look: "?"}, patterns, depth - 1))


def shop_behind(stage, steps, rule, history):
    shop = Workshop(stage, steps, rule)
    told = [shop.do(deed) for deed in history]
    return shop, told
