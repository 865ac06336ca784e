"""Locks and upgrades: what of a lock can stay, and how to get from one right choice to another."""

from noteshold.cellings import is_note_of, outcome_of, reasons_of, threats_of
from noteshold.choices import is_lock, is_right_in
from noteshold.errors import BadLock, NotRight
from noteshold.fields import Field, chosen_rows, in_order, is_right_by, news_to, some_choice, with_domain
from noteshold.hitting import numbers_in, short_first
from noteshold.index import plain_wishes
from noteshold.plain import is_list
from noteshold.versions import version_of


def lock_of(tree):
    found = {}
    for path, text in tree.files().items():
        names = path.split("/")
        if len(names) == 2 and names[0] == "lock" and version_of(text) is not None:
            found[names[1]] = version_of(text)
    return found


def raise_bad_lock(lock):
    if not is_lock(lock):
        raise BadLock(lock)


def news(lock, choice):
    raise_bad_lock(lock)
    return news_to(lock, choice)


def upgrade(index, wishes, lock):
    told = plain_wishes(wishes)
    raise_bad_lock(lock)
    return outcome_of(Field(index, told, lock))


def is_upgrade_note(index, wishes, lock, thing):
    told = plain_wishes(wishes)
    raise_bad_lock(lock)
    return is_note_of(index, told, lock, thing)


def upgrade_reasons(index, wishes, lock):
    told = plain_wishes(wishes)
    raise_bad_lock(lock)
    return reasons_of(index, told, lock)


def upgrade_threats(index, wishes, lock):
    told = plain_wishes(wishes)
    raise_bad_lock(lock)
    return threats_of(index, told, lock)


def sets_kept(field, lock):
    """The locked packages whose rows stand, and the list of the masks of the sets of them that a right choice has."""
    standing = [package for package in sorted(lock) if lock[package] in field.rows.get(package, {})]
    found = []
    for mask in range(1 << len(standing)):
        domains = field.domains
        for package in [standing[k] for k in numbers_in(mask)]:
            domains = with_domain(domains, package, domains[package] & (1 << lock[package]))
        if some_choice(field, domains, None) is not None:
            found.append(mask)
    return (standing, found)


def named(packages, masks):
    """The tuples of the packages of masks, shorter ones first, of as many as Python orders them."""
    return short_first([tuple([packages[k] for k in numbers_in(mask)]) for mask in masks])


def kept(index, wishes, lock):
    field = Field(index, plain_wishes(wishes))
    raise_bad_lock(lock)
    standing, had = sets_kept(field, lock)
    told = {mask: True for mask in had}
    return named(standing, [mask for mask in had
                            if not any([mask | 1 << k in told for k in range(len(standing)) if not mask & (1 << k)])])


def unkept(index, wishes, lock):
    field = Field(index, plain_wishes(wishes))
    raise_bad_lock(lock)
    standing, had = sets_kept(field, lock)
    told = {mask: True for mask in had}
    found = [mask for mask in range(1 << len(standing)) if mask not in told
             and all([mask & ~(1 << k) in told for k in numbers_in(mask)])]
    # A package whose locked version does not stand is in no choice so.
    others = [(package,) for package in sorted(lock) if package not in standing] if had else []
    return short_first(named(standing, found) + others)


class Walks:
    """The right choices to which steps lead from one of them: told as tuples of versions, 0 for one not chosen."""

    def __init__(self, field, one):
        self.field = field
        self.seen = {}
        self.start = self.spot_of(one)
        # For each choice come to, the one ahead of it on a shortest way.
        self.ahead = {self.start: None}

    def spot_of(self, choice):
        return tuple([choice.get(package, 0) for package in self.field.ranked])

    def choice_at(self, spot):
        told = {package: spot[k] for k, package in enumerate(self.field.ranked) if spot[k] > 0}
        return {package: told[package] for package in sorted(told)}

    def is_right(self, spot):
        if spot not in self.seen:
            choice = self.choice_at(spot)
            self.seen[spot] = is_right_by(self.field, choice, chosen_rows(self.field, choice))
        return self.seen[spot]

    def nearby(self, spot):
        """The right choices to which a step leads from one."""
        found = []
        for k, package in enumerate(self.field.ranked):
            for version in [0, *self.field.rows[package]]:
                other = (*spot[:k], version, *spot[k + 1:])
                if version != spot[k] and self.is_right(other):
                    found.append(other)
        return found

    def go(self, goal):
        """Goes on from choice to choice, the nearest ones first, and tells whether it came to the goal."""
        line = [self.start]
        while line and goal not in self.ahead:
            further = []
            for spot in list(line):
                for other in self.nearby(spot):
                    if other not in self.ahead:
                        self.ahead[other] = spot
                        further.append(other)
            line = further
        return goal in self.ahead

    def way_to(self, goal):
        """The list of the choices on the way that was gone."""
        found = []
        spot = goal
        while spot is not None:
            found.append(self.choice_at(spot))
            spot = self.ahead[spot]
        return found[::-1]


def walks(index, wishes, one, goal):
    """The walks from one, a right choice as the goal is."""
    field = Field(index, plain_wishes(wishes))
    for choice in (one, goal):
        if not is_right_in(field, index, choice):
            raise NotRight(choice)
    return Walks(field, one)


def steps(index, wishes, one, goal):
    told = walks(index, wishes, one, goal)
    end = told.spot_of(goal)
    return told.way_to(end) if told.go(end) else None


def closed(index, wishes, one, goal):
    told = walks(index, wishes, one, goal)
    if told.go(told.spot_of(goal)):
        return None
    return in_order(told.field, [told.choice_at(spot) for spot in told.ahead])


def is_closed(index, wishes, one, goal, thing):
    told = walks(index, wishes, one, goal)
    if not is_list(thing) or not all([is_right_in(told.field, index, choice) for choice in thing]):
        return False
    spots = {told.spot_of(choice): True for choice in thing}
    if len(spots) != len(thing) or told.start not in spots or told.spot_of(goal) in spots:
        return False
    return all([other in spots for spot in spots for other in told.nearby(spot)])
