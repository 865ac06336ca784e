"""Rules of keys and locks, judged for all histories."""

from noteshold.errors import BadHouse, BadKept, BadPattern
from noteshold.faults import steps_that_show
from noteshold.grounds import Ground, shortest_pair
from noteshold.manners import closed_pattern, is_open_pattern, plain_manners
from noteshold.hitting import numbers_in, short_first
from noteshold.patterns import matches
from noteshold.plain import is_list
from noteshold.rules import Rule, is_kept_pair
from noteshold.stages import first_barred_house, told_deeds
from noteshold.swaying import Misled, Sway


class Fault:
    """A history, and steps of the manners, by which something is wrong; the chain leads to the source that does it."""

    def __init__(self, history, steps, chain):
        self.history = history
        self.steps = steps
        self.chain = chain


def sway_of(stage, deeds, manners, is_by_cache):
    """How steps of the manners sway behind the told deeds; the errors of these."""
    told = told_deeds(stage, deeds)
    plain = plain_manners(manners)
    house = first_barred_house(stage, plain)
    if house is not None:
        raise BadHouse(house)
    return Sway(Ground(stage, told, plain, is_by_cache), plain)


def fault_between(sway, pair, chain):
    """The fault of a pair of moments, shown by a chain of triples as faults tells them."""
    deeds, house, number, further, other, _ = pair
    history = [*deeds, ("build", house), *further, ("build", other)]
    steps = steps_that_show(sway.manners, sway.ground.trees[number], chain)
    return Fault(history, steps, [name for name, _, _ in chain])


def judged(stage, deeds, manners, rule):
    sway = sway_of(stage, deeds, manners, True)
    misled = Misled(sway, rule)
    bad = [misled.any_mask(number) for number in range(len(sway.ground.trees))]
    pair = shortest_pair(sway.ground, bad)
    if pair is None:
        return None
    number, later = pair[2], pair[5]
    name = [one for one in sway.manners if misled.mask(one, number) & (1 << later)][0]
    return fault_between(sway, pair, misled.way_to_source(name, number, later))


def least_rules(stage, deeds, manners, kept):
    sway = sway_of(stage, deeds, manners, True)
    pairs = plain_kept(kept)
    # Sources that once showed that a rule is wrong are tried first, as they mostly show it again.
    order = [number for number in range(len(sway.ground.trees)) if sway.any_mask(number)]

    def is_enough(mask):
        number = first_misled(Misled(sway, Rule([pairs[k] for k in numbers_in(mask)])), order)
        if number is None:
            return True
        order.remove(number)
        order.insert(0, number)
        return False

    return short_first([tuple(numbers_in(mask)) for mask in least_enough(len(pairs), is_enough)])


def first_misled(misled, numbers):
    """The first of these sources behind which some step is misled, None if there is none."""
    for number in numbers:
        if misled.is_any(number):
            return number
    return None


def plain_kept(kept):
    """The list of the pairs in tuples: BadKept for the first thing that is none, or stood before."""
    if not is_list(kept):
        raise BadKept(0)
    found = []
    for index, thing in enumerate(kept):
        if not is_kept_pair(thing) or tuple(thing) in found:
            raise BadKept(index)
        found.append(tuple(thing))
    return found


def masks_by_size(many):
    places = sorted([(len(numbers_in(mask)), mask) for mask in range(1 << many)])
    return [mask for _, mask in places]


def least_enough(many, is_enough):
    """The least masks of so many bits that are enough, where each is that has all bits of one that is."""
    known = {}
    found = []
    for mask in masks_by_size(many):
        if mask not in known:
            learn(known, many, mask, is_enough)
        if known[mask] and not any([part & mask == part for part in found]):
            found.append(mask)
    return found


def learn(known, many, mask, is_enough):
    """Keeps in known whether a mask is enough, and all that this tells of others."""
    greatest = mask
    if not known_enough(known, many, mask, is_enough):
        # It is made as great as can be, as no part of what is not enough is enough.
        for k in range(many):
            more = greatest | 1 << k
            if more != greatest and not known_enough(known, many, more, is_enough):
                greatest = more
        for other in range(1 << many):
            if other & ~greatest == 0:
                known[other] = False


def known_enough(known, many, mask, is_enough):
    """Whether a mask is enough; those that then are, too, are kept in known."""
    if mask not in known:
        known[mask] = is_enough(mask)
        for other in range(1 << many):
            if known[mask] and other & mask == mask:
                known[other] = True
    return known[mask]


def locked(stage, deeds, manners, patterns):
    sway = sway_of(stage, deeds, manners, False)
    written = written_down(sway.ground, plain_patterns(patterns))
    bad = unlike_with_one_lock(sway, written, list(range(len(patterns))))
    pair = shortest_pair(sway.ground, bad)
    if pair is None:
        return None
    number, later = pair[2], pair[5]
    name = [one for one in sway.manners if sway.mask(one, number, []) & (1 << later)][0]
    told = sway.way_down(name, number, later, [])
    return fault_between(sway, pair, [(one, look, "contents" if look[0] == "read" else "names") for one, look in told])


def plain_patterns(patterns):
    """The list of the patterns of a lock as it is passed."""
    if not is_list(patterns):
        raise BadPattern(patterns)
    for thing in patterns:
        if not is_open_pattern(thing):
            raise BadPattern(thing)
    return patterns


def written_down(ground, patterns):
    """For each sources the list of the masks of the files that each pattern writes down there."""
    numbers = {}
    seen = {}
    found = []
    for number, tree in enumerate(ground.trees):
        row = []
        for pattern in patterns:
            told = closed_pattern(pattern, ground.shown_in(number))
            mask = 0
            for pair in tree.files().items():
                if told is not None and is_matched(seen, told, pair[0]):
                    mask = mask | 1 << numbers.setdefault(pair, len(numbers))
            row.append(mask)
        found.append(row)
    return found


def is_matched(seen, pattern, path):
    """What matches tells, kept in seen, as the same is asked again and again."""
    if (pattern, path) not in seen:
        seen[pattern, path] = matches(pattern, path)
    return seen[pattern, path]


def unlike_with_one_lock(sway, written, chosen):
    """For each sources the mask of those later ones to which steps sway with one lock of the chosen patterns."""
    locks = {}
    told = []
    for number, row in enumerate(written):
        mask = 0
        for k in chosen:
            mask = mask | row[k]
        told.append(mask)
        locks[mask] = locks.get(mask, 0) | 1 << number
    return [locks[told[number]] & sway.any_mask(number) for number in range(len(written))]


def least_locks(stage, deeds, manners, patterns):
    sway = sway_of(stage, deeds, manners, False)
    written = written_down(sway.ground, plain_patterns(patterns))
    found = []
    for mask in masks_by_size(len(patterns)):
        if not any([part & mask == part for part in found]):
            bad = unlike_with_one_lock(sway, written, numbers_in(mask))
            if not any(bad):
                found.append(mask)
    return short_first([tuple(numbers_in(mask)) for mask in found])
