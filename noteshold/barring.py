"""Why no choice is right: barrings, and the least sets of wishes that no choice meets."""

from noteshold.fields import Field, can_be, is_within, lit_by
from noteshold.hitting import numbers_in, short_first
from noteshold.index import plain_wishes
from noteshold.plain import is_integer, is_list, is_name

# A rule is told as in a leaf of a barring. Decided is a dict from packages to versions, None for one not chosen.


def barring(index, wishes):
    field = Field(index, plain_wishes(wishes))
    return None if can_be(field) else barring_below(field, {})


def barring_below(field, decided):
    lit = lit_by(field, rows_decided(field, decided))
    rule = broken_rule(field, decided, lit)
    if rule is not None:
        return ("broken", rule)
    package = package_to_ask(field, decided, lit)
    ways = [*sorted(list(field.rows.get(package, {}))), None]
    return ("ask", package, {version: barring_below(field, {**decided, package: version}) for version in ways})


def choice_decided(decided):
    return {package: decided[package] for package in decided if decided[package] is not None}


def rows_decided(field, decided):
    choice = choice_decided(decided)
    return {package: field.rows[package][choice[package]] for package in choice}


def broken_rule(field, decided, lit):
    """The first rule that what is decided breaks, None if it breaks none."""
    choice = choice_decided(decided)
    rules = [("wish", k) for k in range(len(field.wishes))]
    for package, version in choice.items():
        _, needs, clashes = field.rows[package][version]
        rules.extend([("need", package, version, k) for k in range(len(needs))])
        rules.extend([("clash", package, version, k) for k in range(len(clashes))])
        rules.extend([("feature", package, version, name) for other, name in lit if other == package])
    for rule in rules:
        if is_broken(field, decided, lit, rule):
            return rule
    return None


def is_broken(field, decided, lit, rule):
    """Whether a rule of what stands there is surely broken."""
    choice = choice_decided(decided)
    if rule[0] == "wish":
        package, mask, _ = field.wishes[rule[1]]
        return package in decided and not is_within(choice, package, mask)
    _, package, version, which = rule
    if choice.get(package) != version:
        return False
    features, needs, clashes = field.rows[package][version]
    if rule[0] == "clash":
        other, mask = clashes[which]
        return is_within(choice, other, mask)
    if rule[0] == "feature":
        return (package, which) in lit and which not in features
    when, options, _ = needs[which]
    if when is not None and (package, when) not in lit:
        return False
    return all([other in decided and not is_within(choice, other, mask) for other, mask in options])


def package_to_ask(field, decided, lit):
    """A package that a wish, or a live need that nothing meets yet, hangs on.

    If there were none the decided packages alone would be a right choice.
    """
    for package, _, _ in field.wishes:
        if package not in decided:
            return package
    choice = choice_decided(decided)
    rows = rows_decided(field, decided)
    for package in rows:
        for when, options, _ in rows[package][1]:
            if when is None or (package, when) in lit:
                free = [other for other, _ in options if other not in decided]
                if free and not any([is_within(choice, other, mask) for other, mask in options]):
                    return free[0]
    return None


def is_barring(index, wishes, thing):
    field = Field(index, plain_wishes(wishes))
    line = [(thing, {})]
    while line:
        part, decided = line.pop()
        below = parts_below(field, part, decided)
        if below is None:
            return False
        line.extend(below)
    return True


def parts_below(field, part, decided):
    """The list of the parts right below a part of a barring, with what is decided there; None if it is none."""
    if not is_list(part) or len(part) == 0:
        return None
    if part[0] == "broken" and len(part) == 2:
        if not is_rule(field, decided, part[1]):
            return None
        return [] if is_broken(field, decided, lit_by(field, rows_decided(field, decided)), part[1]) else None
    if part[0] != "ask" or len(part) != 3 or not is_name(part[1]) or part[1] in decided:
        return None
    package, trees = part[1], part[2]
    versions = list(field.rows.get(package, {}))
    if not isinstance(trees, dict) or not all([key is None or is_integer(key) for key in trees]):
        return None
    if len(trees) != len(versions) + 1 or not all([key in trees for key in [*versions, None]]):
        return None
    return [(trees[version], {**decided, package: version}) for version in trees]


def is_rule(field, decided, thing):
    """Whether any object tells a rule that stands there, where this is decided."""
    if not is_list(thing) or len(thing) == 0:
        return False
    if thing[0] == "wish":
        return len(thing) == 2 and is_number(thing[1], field.wishes)
    if thing[0] not in ("need", "clash", "feature") or len(thing) != 4:
        return False
    _, package, version, which = thing
    if not is_name(package) or not is_integer(version) or decided.get(package) != version:
        return False
    _, needs, clashes = field.rows[package][version]
    if thing[0] == "feature":
        return is_name(which)
    return is_number(which, needs if thing[0] == "need" else clashes)


def is_number(thing, rows):
    return is_integer(thing) and 0 <= thing < len(rows)


def sets_met(index, wishes):
    """The dict from all sets of numbers of wishes, told as masks, to whether some choice meets these wishes."""
    told = plain_wishes(wishes)
    found = {}
    for mask in range(1 << len(told)):
        found[mask] = can_be(Field(index, [told[k] for k in numbers_in(mask)]))
    return found


def blames(index, wishes):
    met = sets_met(index, wishes)
    return short_first([tuple(numbers_in(mask)) for mask in met
                        if not met[mask] and all([met[mask & ~(1 << k)] for k in numbers_in(mask)])])


def peaces(index, wishes):
    met = sets_met(index, wishes)
    many = len(wishes)
    return short_first([tuple(numbers_in(mask)) for mask in met
                        if met[mask] and not any([met[mask | 1 << k] for k in range(many) if not mask & (1 << k)])])
