"""Roads: what is enough of the sources, index and wishes among them, for a name and all that it needs."""

from noteshold.books import Book, step_of
from noteshold.cellings import all_cells, free_row, is_note_of, reasons_of, threat_masks
from noteshold.choices import first
from noteshold.choosing import WISH, wishes_in
from noteshold.errors import BadName, NotTrue
from noteshold.goings import CHOOSER
from noteshold.hitting import mask_by, numbers_in
from noteshold.index import index_of
from noteshold.meeting import needed_by, own_sights, raise_not_together
from noteshold.reasons import sights_of
from noteshold.rules import follows_from_any, tree_without
from noteshold.sights import flows, nearest, plain_sights
from noteshold.works import in_work


def roads(work, sources, runs, name):
    raise_no_name(work, sources, runs, name)
    told = needed_by(work, runs, name)
    base = own_sights(work, told)
    if CHOOSER not in told:
        return least_roads(base, [[]])
    base.append((WISH, sources.shown(WISH)))
    if told[CHOOSER].outcome == "odd":
        return least_roads(base, [[]])
    found = reasons_of(index_of(sources), wishes_in(sources.shown(WISH)), None)
    return least_roads(base, [sights_of(sources, reason) for reason in found])


def raise_no_name(work, sources, runs, name):
    raise_not_together(work, sources, runs)
    if name not in work or name not in runs:
        raise BadName(name)


def least_roads(base, ways):
    """The lists of the least of the sights of base and of one way, without those from which another one follows."""
    numbers = {}
    for sight in [*base, *[sight for way in ways for sight in way]]:
        numbers.setdefault(sight, len(numbers))
    sights = list(numbers)
    behind = [mask_by([k for k, other in enumerate(sights) if flows(sight, other)]) for sight in sights]
    masks = {}
    for way in ways:
        masks[least_mask(behind, mask_by(sorted(set([numbers[sight] for sight in [*base, *way]]))))] = True
    kept = list(masks)
    of_ways = mask_by(sorted(set([numbers[sight] for way in ways for sight in way])))
    if of_ways & mask_by(sorted(set([numbers[sight] for sight in base]))) or are_tied(behind, of_ways):
        reach = {mask: reach_of(behind, mask) for mask in masks}
        kept = [mask for mask in masks if not any([other & ~reach[mask] == 0 for other in masks if other != mask])]
    return by_looks([sorted([sights[k] for k in numbers_in(mask)]) for mask in kept])


def are_tied(behind, mask):
    """Whether one of these sights follows from another sight.

    If none does, and none is in the base, all sights of one way follow from another one only if they are among them,
    and no reason has all cells of another one.
    """
    return any([others & mask & ~(1 << k) for k, others in enumerate(behind)])


def least_mask(behind, mask):
    """Those sights of a mask that follow from no other one of it."""
    rest = mask
    for k in numbers_in(mask):
        rest = rest & ~(behind[k] & ~(1 << k))
    return rest


def reach_of(behind, mask):
    found = 0
    for k in numbers_in(mask):
        found = found | behind[k]
    return found


def by_looks(rows):
    """Rows of sights, shorter ones first, of as many as Python orders the lists of their looks."""
    places = sorted([(len(row), [look for look, _ in row], k) for k, row in enumerate(rows)])
    return [rows[k] for _, _, k in places]


def is_road(work, sources, runs, name, sights):
    told = true_sights(work, sources, runs, name, sights)
    needed = needed_by(work, runs, name)
    return first_loose(work, sources, needed, told) is None and is_enough_for(sources, needed, told)


def true_sights(work, sources, runs, name, sights):
    """The list of the sights that are passed, in tuples: they have to be true in the sources."""
    raise_no_name(work, sources, runs, name)
    told = plain_sights(sights)
    for index, (look, answer) in enumerate(told):
        if sources.shown(look) != answer:
            raise NotTrue(index)
    return told


def first_loose(work, sources, needed, sights):
    """The first sight of steps' own, or of wish where the chooser is needed, that does not follow; None if all do."""
    told = own_sights(work, needed)
    if CHOOSER in needed:
        told.append((WISH, sources.shown(WISH)))
    for sight in told:
        if not follows_from_any(sight, sights):
            return sight
    return None


def is_enough_for(sources, needed, sights):
    """Whether the outcome of the chooser, if it is needed, stays wherever the sights and that of wish are true."""
    if CHOOSER not in needed or needed[CHOOSER].outcome == "odd":
        return True
    index, wishes = index_of(sources), wishes_in(sources.shown(WISH))
    cells = all_cells(index, wishes)
    return is_note_of(index, wishes, None, [cells[k] for k in numbers_covered(sources, cells, sights)])


def numbers_covered(sources, cells, sights):
    """The numbers of the cells all of whose sights follow."""
    return [k for k, cell in enumerate(cells)
            if all([follows_from_any(sight, sights) for sight in sights_of(sources, [cell])])]


def parted(work, sources, runs, name, sights):
    told = true_sights(work, sources, runs, name, sights)
    needed = needed_by(work, runs, name)
    sight = first_loose(work, sources, needed, told)
    if sight is None and is_enough_for(sources, needed, told):
        return None
    steps = {one: step_of(Book([run]), run.outcome + "x") for one, run in in_work(work, runs).items() if one != CHOOSER}
    if sight is None:
        return (with_other_outcome(sources, told), steps)
    if sight[0] == WISH and CHOOSER in needed:
        # Without wishes the chooser is right with nothing; no text of wishes lacks its last line feed.
        text = "" if needed[CHOOSER].outcome == "odd" else "x"
        return (nearest(sources, [*told, (WISH, text)]), steps)
    return (tree_without(told, sight), steps)


def with_other_outcome(sources, sights):
    """Sources with these sights in which the chooser ends otherwise, which the cells that they cover let be."""
    index, wishes = index_of(sources), wishes_in(sources.shown(WISH))
    cells = all_cells(index, wishes)
    covered = mask_by(numbers_covered(sources, cells, sights))
    threat = [mask for mask in threat_masks(index, wishes, None) if not mask & covered][0]
    chosen = first(index, wishes)
    found = list(sights)
    for k in numbers_in(threat):
        look = [look for look, answer in sights_of(sources, [cells[k]])
                if not follows_from_any((look, answer), sights)][0]
        is_chosen = chosen is not None and chosen.get(cells[k][0]) == cells[k][1]
        found.append((look, "x" if is_chosen else free_row(index, wishes).text()))
    return nearest(sources, found)
