"""Right and lean choices of versions, and their order."""

from noteshold.errors import BadChoice, BadNumber
from noteshold.fields import Field, best_choice, chosen_rows, is_lean_by, is_right_by, lean_choices, lit_by
from noteshold.index import plain_wishes
from noteshold.plain import is_integer, is_name
from noteshold.versions import is_version


def is_lock(thing):
    """Whether any object is a dict from names to versions."""
    return isinstance(thing, dict) and all([is_name(name) and is_version(thing[name]) for name in thing])


def is_choice(index, thing):
    return is_lock(thing) and all([index[package, thing[package]] is not None for package in thing])


def is_right(index, wishes, choice):
    return is_right_in(Field(index, plain_wishes(wishes)), index, choice)


def is_right_in(field, index, thing):
    """Whether any object is a right choice in an index, of which a field was made."""
    return is_choice(index, thing) and is_right_by(field, thing, chosen_rows(field, thing))


def is_lean(index, wishes, choice):
    field = Field(index, plain_wishes(wishes))
    return is_right_in(field, index, choice) and is_lean_by(field, choice)


def lit(index, wishes, choice):
    field = Field(index, plain_wishes(wishes))
    if not is_choice(index, choice):
        raise BadChoice(choice)
    return sorted(list(lit_by(field, chosen_rows(field, choice))))


def first(index, wishes):
    return best_choice(Field(index, plain_wishes(wishes)), None)


def choices(index, wishes):
    return lean_choices(Field(index, plain_wishes(wishes)))


def how_many(index, wishes):
    return len(choices(index, wishes))


def number_of(index, wishes, choice):
    told = choices(index, wishes)
    if not is_choice(index, choice) or choice not in told:
        raise BadChoice(choice)
    return told.index(choice)


def choice_at(index, wishes, number):
    told = choices(index, wishes)
    if not is_integer(number) or number < 0:
        raise BadNumber(number)
    return told[number] if number < len(told) else None


def spread(index, wishes):
    told = choices(index, wishes)
    found = {}
    for package in sorted(set([package for choice in told for package in choice])):
        versions = sorted(set([choice[package] for choice in told if package in choice]))
        found[package] = versions[::-1] + ([None] if any([package not in choice for choice in told]) else [])
    return found
