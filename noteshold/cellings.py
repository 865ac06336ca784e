"""Cells of versions, notes of an outcome among them, and its threats and reasons.

Where an outcome is asked for, lock is None for that of first, or a dict for that of upgrade.
"""

from noteshold.fields import Field, best_choice, is_right_by, mask_of, news_to, rank_in, ranked_by, some_choice
from noteshold.hitting import least_hitting, least_masks, mask_by, numbers_in, short_first
from noteshold.index import Index, Row
from noteshold.plain import is_integer, is_list
from noteshold.versions import all_versions


def rows_that_count(index, wishes):
    """The dict from the packages that count for wishes to the dicts from versions to their rows."""
    found = {}
    line = [package for package, _, _ in wishes]
    while line:
        package = line.pop()
        if package not in found:
            found[package] = {version: index[package, version] for version in index.versions(package)}
            needs = [need for row in found[package].values() for need in row.needs]
            line.extend([other for _, options, _ in needs for other, _ in options])
    return {package: found[package] for package in sorted(found)}


def ranges_told(rows, wishes):
    """The dict from packages to the masks of all ranges that wishes and rows have for them."""
    found = {}
    told = [(package, span) for package, span, _ in wishes]
    for versions in rows.values():
        for row in versions.values():
            told.extend([option for _, options, _ in row.needs for option in options])
            told.extend(list(row.clashes))
    for package, span in told:
        found.setdefault(package, []).append(mask_of(span))
    return found


def all_cells(index, wishes):
    rows = rows_that_count(index, wishes)
    ranges = ranges_told(rows, wishes)
    return [cell for package in rows for cell in cells_of(package, rows[package], ranges.get(package, []))]


def cells_of(package, rows, masks):
    """The ascending list of the cells of a package, whose rows stand there, and which has ranges with these masks."""
    found = []
    last = None
    for version in all_versions():
        # Of two rows side by side each is a cell by itself.
        place = version if version in rows else tuple([mask & (1 << version) != 0 for mask in masks])
        if place == last:
            found[-1] = (package, found[-1][1], version)
        else:
            found.append((package, version, version))
        last = place
    return found


def plain_cells(cells, thing):
    """The list of the numbers of unlike cells, None if any object is no list of some of these."""
    if not is_list(thing) or not all([is_list(cell) and len(cell) == 3 for cell in thing]):
        return None
    if not all([is_integer(cell[1]) and is_integer(cell[2]) and tuple(cell) in cells for cell in thing]):
        return None
    found = [cells.index(tuple(cell)) for cell in thing]
    return found if len(set(found)) == len(found) else None


def places_of(cell):
    package, low, high = cell
    return [(package, version) for version in range(low, high + 1)]


def free_row(index, wishes):
    """The row that has all that anybody asks for, and needs and bars nothing."""
    asks = [name for _, _, told in wishes for name in told]
    for package in index.packages():
        for version in index.versions(package):
            asks.extend([name for _, _, told in index[package, version].needs for name in told])
    return Row(sorted(set(asks)))


def outcome_of(field):
    """The outcome of a field: if it has a lock that of upgrade, else that of first."""
    if field.lock is None:
        return best_choice(field, None)
    for budget in range(len(field.ranked) + 1):
        if some_choice(field, field.domains, budget) is not None:
            return best_choice(field, budget)
    return None


def is_note_of(index, wishes, lock, thing):
    """Whether any object is a list of unlike cells that is a note of the outcome.

    It is one just if it has the chosen cells, and the outcome stays with free rows at all other places.
    """
    cells = all_cells(index, wishes)
    numbers = plain_cells(cells, thing)
    if numbers is None:
        return False
    outcome = outcome_of(Field(index, wishes, lock))
    kept = {place: index[place] for k in numbers for place in places_of(cells[k])}
    if outcome is not None and not all([(package, outcome[package]) in kept for package in outcome]):
        return False
    free = free_row(index, wishes)
    rows = {place: kept.get(place, free) for cell in cells for place in places_of(cell)}
    rows = {place: row for place, row in rows.items() if row is not None}
    return outcome_of(Field(Index(rows), wishes, lock)) == outcome


def threat_masks(index, wishes, lock):
    """The masks, by the numbers of cells, of all threats to the outcome.

    These are the chosen cells, and the least sets of cells by whose free rows a choice that would be better gets right.
    """
    cells = all_cells(index, wishes)
    field = Field(index, wishes, lock)
    outcome = outcome_of(field)
    numbers = {place: k for k, cell in enumerate(cells) for place in places_of(cell)}
    # The packages that do not count are in no outcome, and no choice gets better by them.
    ranked = ranked_by(wishes, [cell[0] for cell in cells])
    chosen = [] if outcome is None else [1 << numbers[package, outcome[package]] for package in outcome]
    free = (free_row(index, wishes).features, [], [])
    found = list(chosen)
    for choice in choices_of_cells(field, cells, ranked):
        if outcome is None or price(field, ranked, choice) < price(field, ranked, outcome):
            found.extend(openings(field, choice, numbers, free))
    return least_masks(found)


def price(field, ranked, choice):
    """What is less for better choices."""
    many = 0 if field.lock is None else len(news_to(field.lock, choice))
    return (many, rank_in(ranked, choice))


def choices_of_cells(field, cells, ranked):
    """The list of all choices that take one version from each cell, and meet the ranges of the wishes."""
    found = [{}]
    for package in ranked:
        wanted = [mask for other, mask, _ in field.wishes if other == package]
        versions = [version_in(field, cell) for cell in cells if cell[0] == package]
        right = [version for version in versions if all([mask & (1 << version) for mask in wanted])]
        ways = [{package: version} for version in right] + ([] if wanted else [{}])
        found = [{**choice, **way} for choice in found for way in ways]
    return found


def version_in(field, cell):
    """A version of a cell by which a choice is as good as by any other one: the locked one is no news."""
    package, low, high = cell
    locked = 0 if field.lock is None else field.lock.get(package, 0)
    return locked if low <= locked <= high else high


def openings(field, choice, numbers, free):
    """The masks of the least sets of cells with whose free rows a choice is right."""
    standing = [package for package in choice if choice[package] in field.rows.get(package, {})]
    must = mask_by([numbers[package, choice[package]] for package in choice if package not in standing])
    found = []
    for left in range(1 << len(standing)):
        opened = [standing[k] for k in numbers_in(left)]
        mask = must | mask_by([numbers[package, choice[package]] for package in opened])
        if not any([part & mask == part for part in found]):
            rows = {package: free for package in choice}
            for package in standing:
                if package not in opened:
                    rows[package] = field.rows[package][choice[package]]
            if is_right_by(field, choice, rows):
                found.append(mask)
    return found


def cells_by(cells, masks):
    """The lists of the cells of masks, fewer ones first, of as many as Python orders them."""
    return short_first([[cells[k] for k in numbers_in(mask)] for mask in masks])


def threats_of(index, wishes, lock):
    return cells_by(all_cells(index, wishes), threat_masks(index, wishes, lock))


def reasons_of(index, wishes, lock):
    return cells_by(all_cells(index, wishes), least_hitting(threat_masks(index, wishes, lock)))
