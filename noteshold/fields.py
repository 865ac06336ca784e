"""Choices among the rows of an index: what is lit, what is right, and the search for right ones.

What a package can do is a mask: bit 0 stands for not being chosen, bit n for version n.
"""

NOT_CHOSEN = 1


class Field:
    """An index and wishes, told so that choices can be gone through; the lock tells what is no news."""

    def __init__(self, index, wishes, lock=None):
        self.wishes = [(package, mask_of(span), asks) for package, span, asks in wishes]
        self.ranked = ranked_by(wishes, index.packages())
        self.rows = {package: rows_at(index, package) for package in self.ranked}
        self.domains = first_domains(self)
        self.lock = lock


def mask_of(span):
    return sum([(1 << high + 1) - (1 << low) for low, high in span.spans()])


def ranked_by(wishes, packages):
    """The packages of the wishes, each once, then all others, ascending."""
    told = {package: True for package, _, _ in wishes}
    return [*told, *[package for package in sorted(set(packages)) if package not in told]]


def rows_at(index, package):
    """The dict from the versions of a package to its rows, ranges being masks."""
    return {version: row_told(index[package, version]) for version in index.versions(package)}


def row_told(row):
    needs = [(when, tuple([(package, mask_of(span)) for package, span in options]), asks)
             for when, options, asks in row.needs]
    return (row.features, needs, [(package, mask_of(span)) for package, span in row.clashes])


def first_domains(field):
    """What each package can do at most: wishes have to be met."""
    found = {package: NOT_CHOSEN + sum([1 << version for version in field.rows[package]]) for package in field.ranked}
    for package, mask, _ in field.wishes:
        found[package] = found[package] & mask
    return found


def chosen_rows(field, choice):
    return {package: field.rows[package][choice[package]] for package in choice}


def lit_by(field, rows):
    """What is lit by these rows, told by their packages, as the keys of a dict."""
    found = {(package, name): True for package, _, asks in field.wishes for name in asks}
    many = -1
    while many < len(found):
        many = len(found)
        for package in rows:
            for when, options, asks in rows[package][1]:
                if asks and (when is None or (package, when) in found):
                    for name in asks:
                        found[options[0][0], name] = True
    return found


def is_within(choice, package, mask):
    return package in choice and mask & (1 << choice[package]) != 0


def is_right_by(field, choice, rows):
    """Whether a choice is right if these rows stand for its packages."""
    if not all([is_within(choice, package, mask) for package, mask, _ in field.wishes]):
        return False
    lit = lit_by(field, rows)
    for package, name in lit:
        if package in rows and name not in rows[package][0]:
            return False
    for package in rows:
        _, needs, clashes = rows[package]
        for other, mask in clashes:
            if is_within(choice, other, mask):
                return False
        for when, options, _ in needs:
            if when is None or (package, when) in lit:
                if not any([is_within(choice, other, mask) for other, mask in options]):
                    return False
    return True


def rank_in(ranked, choice):
    """A tuple by which choices are ordered: those ahead have the smaller one."""
    return tuple([-choice[package] if package in choice else -100 for package in ranked])


def news_to(lock, choice):
    return [package for package in sorted(choice) if lock.get(package) != choice[package]]


def in_order(field, found):
    """The list of these choices as ascending dicts, each behind those ahead of it."""
    places = sorted([(rank_in(field.ranked, choice), k) for k, choice in enumerate(found)])
    return [{package: found[k][package] for package in sorted(found[k])} for _, k in places]


def chosen_in(domains):
    """The choice of those packages that have to be chosen, and can be in one version alone."""
    found = {}
    for package in domains:
        mask = domains[package]
        if mask & (mask - 1) == 0 and mask > NOT_CHOSEN:
            found[package] = mask.bit_length() - 1
    return found


def with_domain(domains, package, mask):
    found = dict(domains)
    found[package] = mask
    return found


def settled_domains(field, domains, budget):
    """What is left of the domains of right choices of so many news; None if there is surely no such choice."""
    before = None
    found = dict(domains)
    while found != before:
        before = found
        found = narrowed(field, found, budget)
        if found is None or 0 in list(found.values()):
            return None
    return found


def narrowed(field, domains, budget):
    """The domains without what what has to be chosen bars; None if that itself cannot be."""
    choice = chosen_in(domains)
    rows = chosen_rows(field, choice)
    lit = lit_by(field, rows)
    found = dict(domains)
    if budget is not None and not spend(field, found, choice, budget):
        return None
    for package, name in lit:
        if package in found:
            found[package] = found[package] & having(field, package, name)
    for package in rows:
        for other, mask in rows[package][2]:
            if other in found:
                found[other] = found[other] & ~mask
    for options in live_needs(rows, lit):
        left = [(package, mask) for package, mask in options if found.get(package, NOT_CHOSEN) & mask]
        if len(left) == 0:
            return None
        if len(left) == 1:
            found[left[0][0]] = found[left[0][0]] & left[0][1]
    return found


def spend(field, domains, choice, budget):
    """Whether a choice has no more news than these; where it has as many, all others do without."""
    many = len(news_to(field.lock, choice))
    if many == budget:
        for package in list(domains):
            if package not in choice:
                domains[package] = domains[package] & (NOT_CHOSEN | 1 << field.lock.get(package, 0))
    return many <= budget


def having(field, package, name):
    """The mask of the versions of a package that have a feature, and of not being chosen."""
    rows = field.rows[package]
    return NOT_CHOSEN + sum([1 << version for version in rows if name in rows[version][0]])


def live_needs(rows, lit):
    """The list of the options of the live needs of rows."""
    return [options for package in rows for when, options, _ in rows[package][1]
            if when is None or (package, when) in lit]


def open_needs(field, domains):
    """The list of the options of those live needs of what is chosen so far that are not surely met."""
    choice = chosen_in(domains)
    rows = chosen_rows(field, choice)
    needs = live_needs(rows, lit_by(field, rows))
    return [options for options in needs if not any([is_within(choice, package, mask) for package, mask in options])]


def bits_in(mask):
    return [1 << k for k in range(mask.bit_length()) if mask & (1 << k)]


def bits_tried(mask):
    """The bits of a mask, that of not being chosen first, then those of greater versions first."""
    bits = bits_in(mask & ~NOT_CHOSEN)[::-1]
    return [NOT_CHOSEN, *bits] if mask & NOT_CHOSEN else bits


def branched(field, domains):
    """The list of the domains among which those of all right choices are divided, and whether versions alone
    part them; an empty one if what has to be chosen is a right choice by itself."""
    wide = [package for package in domains if not domains[package] & NOT_CHOSEN
            and domains[package] & (domains[package] - 1)]
    if wide:
        sizes = sorted([(len(bits_in(domains[package])), package) for package in wide])
        package = sizes[0][1]
        return ([with_domain(domains, package, bit) for bit in bits_in(domains[package])], True)
    found = []
    for options in open_needs(field, domains)[:1]:
        rest = domains
        for package, mask in options:
            if rest.get(package, NOT_CHOSEN) & mask:
                found.append(with_domain(rest, package, rest[package] & mask))
                rest = with_domain(rest, package, rest[package] & ~mask)
    return (found, False)


def gather(field, domains, budget, is_sure, found, most):
    """Adds to found right choices within the domains until there are so many (None: all that can be lean).

    Each stands in a pair with whether it is surely lean: so it is where nobody chose among the options of a need.
    """
    left = None if most is not None and len(found) >= most else settled_domains(field, domains, budget)
    if left is None:
        return
    parts, is_plain = branched(field, left)
    if not parts:
        found.append((chosen_in(left), is_sure))
    for part in parts:
        gather(field, part, budget, is_sure and is_plain, found, most)


def some_choice(field, domains, budget):
    """A right choice within the domains, of no more news than the budget (None: any), None if there is none."""
    found = []
    gather(field, domains, budget, True, found, 1)
    return found[0][0] if found else None


def can_be(field):
    return some_choice(field, field.domains, None) is not None


def best_choice(field, budget):
    """The right choice ahead of all others of no more news than the budget: a lean one, as what lacks is ahead."""
    found = some_choice(field, field.domains, budget)
    if found is None:
        return None
    domains = field.domains
    for package in field.ranked:
        domains = settled_domains(field, domains, budget)
        for bit in bits_tried(domains[package]):
            part = with_domain(domains, package, bit)
            if bit != 1 << found.get(package, 0):
                other = some_choice(field, part, budget)
                if other is None:
                    continue
                found = other
            domains = part
            break
    return {package: found[package] for package in sorted(found)}


def is_lean_by(field, choice):
    """Whether no right choice lacks some packages of a right one, and has all others as it has them."""
    domains = {package: NOT_CHOSEN | 1 << choice[package] for package in choice}
    for package, mask, _ in field.wishes:
        domains[package] = domains[package] & mask
    left = settled_domains(field, domains, None)
    for package in choice:
        if left[package] & NOT_CHOSEN and some_choice(field, with_domain(left, package, NOT_CHOSEN), None) is not None:
            return False
    return True


def lean_choices(field):
    """The list of all lean choices, ascending dicts, each behind those ahead of it."""
    found = []
    gather(field, field.domains, None, True, found, None)
    return in_order(field, [choice for choice, is_sure in found if is_sure or is_lean_by(field, choice)])
