"""Stages: shelves and houses, what deeds make of them, and all that told deeds lead to."""

from noteshold.choosing import chosen
from noteshold.deeds import STAGE_DEEDS, house_of, plain_deed, shelves_of
from noteshold.errors import BadChange, BadDeed, BadHouse, BadShelf, Blocked, NoHouse, NoStep
from noteshold.manners import has_manner, plain_manners
from noteshold.plain import first_of, is_beneath, is_list, is_name
from noteshold.trees import Tree


class Stage:
    """Trees on shelves, and the houses that take their sources from them."""

    def __init__(self, shelves, houses):
        self._shelves = checked_shelves(shelves)
        self._houses = checked_houses(houses, self._shelves)

    def shelves(self):
        return dict(self._shelves)

    def houses(self):
        return dict(self._houses)

    def sources(self, house):
        if not is_name(house) or house not in self._houses:
            raise NoHouse(house)
        work, store, _ = self._houses[house]
        return self._shelves[work] | self._shelves[store]

    def after(self, history):
        return stages_along(self, history)[-1]

    def __eq__(self, other):
        return isinstance(other, Stage) and self._shelves == other._shelves and self._houses == other._houses


def checked_shelves(shelves):
    """The ascending dict of the shelves."""
    if not isinstance(shelves, dict):
        raise BadShelf(shelves)
    for name in shelves:
        if not is_name(name) or not isinstance(shelves[name], Tree):
            raise BadShelf(name)
    return {name: shelves[name] for name in sorted(shelves)}


def checked_houses(houses, shelves):
    """The ascending dict of the houses, in tuples."""
    if not isinstance(houses, dict):
        raise BadHouse(houses)
    for name in houses:
        if not is_name(name) or not is_house(houses[name], shelves):
            raise BadHouse(name)
    return {name: tuple(houses[name]) for name in sorted(houses)}


def is_house(thing, shelves):
    if not is_list(thing) or len(thing) != 3 or not all([is_name(part) for part in thing]):
        return False
    if thing[0] not in shelves or thing[1] not in shelves:
        return False
    firsts = shelves[thing[0]].firsts()
    return not any([first in firsts for first in shelves[thing[1]].firsts()])


def stages_along(stage, history):
    """The stage, and those behind each of the deeds; BadDeed for the first that is none or cannot be done."""
    if not is_list(history):
        raise BadDeed(0)
    found = [stage]
    seen = {}
    for index, thing in enumerate(history):
        deed = plain_deed(thing)
        there = None if deed is None else stage_behind(found[-1], deed, seen)
        if there is None:
            raise BadDeed(index)
        found.append(there)
    return found


def stage_behind(stage, deed, seen):
    """The stage behind a deed told in tuples, None if it cannot be done there.

    seen keeps what the chooser makes of what it can look at, as it mostly stays.
    """
    shelves, houses = stage.shelves(), stage.houses()
    if not is_told(deed, shelves, houses):
        return None
    if deed[0] in ("build", "lose"):
        return stage
    try:
        if deed[0] == "edit":
            shelves[deed[1]] = shelves[deed[1]].after(deed[2])
        if deed[0] == "copy":
            shelves[deed[1]] = shelves[deed[2]]
        if deed[0] == "move":
            work, store, cache = houses[deed[1]]
            houses[deed[1]] = (deed[3], store, cache) if deed[2] == 0 else (work, deed[3], cache)
        if deed[0] == "choose":
            work = houses[deed[1]][0]
            shelves[work] = with_lock(shelves[work], lock_made(stage.sources(deed[1]), seen))
        return Stage(shelves, houses)
    except (BadChange, Blocked, BadHouse):
        return None


def is_told(deed, shelves, houses):
    """Whether the shelves, the house or the cache that a deed names are there."""
    if deed[0] == "lose":
        return deed[1] in [cache for _, _, cache in houses.values()]
    house = house_of(deed)
    return (house is None or house in houses) and all([shelf in shelves for shelf in shelves_of(deed)])


def lock_made(sources, seen):
    """The files that the chooser makes, pairs of a path and a text."""
    told = tuple([pair for pair in sources.files().items() if first_of(pair[0]) in ("index", "wish")])
    if told not in seen:
        seen[told] = chosen(sources).made
    return seen[told]


def with_lock(tree, made):
    """The tree in which these files are all that is beneath lock."""
    files = tree.files()
    kept = {path: files[path] for path in files if not is_beneath(path, "lock")}
    for path, text in made:
        kept["lock/" + path] = text
    return Tree(kept)


def moments(stage, history):
    stages = stages_along(stage, history)
    deeds = [plain_deed(thing) for thing in history]
    return [(index, deed[1], stages[index].sources(deed[1])) for index, deed in enumerate(deeds) if deed[0] == "build"]


def keeps_to(manners, name, run):
    told = plain_manners(manners)
    if not is_name(name) or name not in told:
        raise NoStep(name)
    return has_manner(told[name], run)


def told_deeds(stage, deeds):
    """The list of the told deeds in tuples: BadDeed for the first thing that is none by which stages change."""
    if not is_list(deeds):
        raise BadDeed(0)
    found = []
    for index, thing in enumerate(deeds):
        deed = plain_deed(thing)
        if deed is None or deed[0] not in STAGE_DEEDS or not is_told(deed, stage.shelves(), stage.houses()):
            raise BadDeed(index)
        found.append(deed)
    return found


def stage_key(stage):
    """What is the same for equal stages alone."""
    shelves = [(name, tuple(tree.files().items())) for name, tree in stage.shelves().items()]
    return (tuple(shelves), tuple(stage.houses().items()))


def stages_from(stage, deeds, barred):
    """The list of the stages to which rows of the deeds lead, in the order in which they are first met; and for each
    of them the list of the pairs of the number of a deed and of that of the stage behind it.

    No house gets a file with a first name that is barred.
    """
    found = [stage]
    numbers = {stage_key(stage): 0}
    nexts = []
    seen = {}
    while len(nexts) < len(found):
        row = []
        for number, deed in enumerate(deeds):
            there = stage_behind(found[len(nexts)], deed, seen)
            if there is not None and first_barred_house(there, barred) is None:
                key = stage_key(there)
                if key not in numbers:
                    numbers[key] = len(found)
                    found.append(there)
                row.append((number, numbers[key]))
        nexts.append(row)
    return (found, nexts)


def first_barred_house(stage, barred):
    """The first house, ascending, that has a file with a first name that is barred, None if there is none."""
    shelves = stage.shelves()
    bad = [name for name in shelves if barred and any([first in barred for first in shelves[name].firsts()])]
    for name, house in stage.houses().items():
        if house[0] in bad or house[1] in bad:
            return name
    return None


def table(stage, deeds):
    return stages_from(stage, told_deeds(stage, deeds), ())[0]


def is_table(stage, deeds, thing):
    told = told_deeds(stage, deeds)
    if not is_list(thing) or not all([isinstance(one, Stage) for one in thing]):
        return False
    numbers = {stage_key(one): True for one in thing}
    if len(numbers) != len(thing) or stage_key(stage) not in numbers:
        return False
    seen = {}
    for one in thing:
        for deed in told:
            there = stage_behind(one, deed, seen)
            if there is not None and stage_key(there) not in numbers:
                return False
    return True
