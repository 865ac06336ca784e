"""Reasons of the first choice, and what threatens it."""

from noteshold.cellings import all_cells, free_row, is_note_of, places_of, plain_cells
from noteshold.cellings import reasons_of, threat_masks, threats_of
from noteshold.choices import first
from noteshold.errors import BadThreat
from noteshold.hitting import mask_by
from noteshold.index import plain_wishes


def cells(index, wishes):
    return all_cells(index, plain_wishes(wishes))


def sights_of(tree, some):
    found = []
    for cell in some:
        looks = [("read", f"index/{package}/{version}") for package, version in places_of(cell)]
        found.extend([(look, tree.shown(look)) for look in looks])
    return found


def is_note(index, wishes, thing):
    return is_note_of(index, plain_wishes(wishes), None, thing)


def reasons(index, wishes):
    return reasons_of(index, plain_wishes(wishes), None)


def threats(index, wishes):
    return threats_of(index, plain_wishes(wishes), None)


def harm(index, wishes, threat):
    told = plain_wishes(wishes)
    here = all_cells(index, told)
    numbers = plain_cells(here, threat)
    if numbers is None or mask_by(numbers) not in threat_masks(index, told, None):
        raise BadThreat(threat)
    outcome = first(index, told)
    places = [places_of(here[k])[0] for k in numbers]
    if len(places) == 1 and outcome is not None and outcome.get(places[0][0]) == places[0][1]:
        return index.without(places[0])
    found = index
    for place in places:
        found = found.put(place, free_row(index, told))
    return found
