"""Builds: which steps end, how, and which wait; runs that are a build however they came about."""

from noteshold.errors import BadName
from noteshold.goings import CHOOSER, going
from noteshold.steps import Run, Step
from noteshold.trees import Tree
from noteshold.works import in_work, looks_in, made_by, raise_bad_names, raise_bad_runs, raise_bad_sources
from noteshold.works import raise_bad_books, raise_bad_wanted, raise_own_folder, ring_behind, tree_by


class Build:
    """What came of the steps that were wanted: the runs of those that ended, and the looks at which others wait."""

    def __init__(self, work, sources, runs, waits):
        self._work = work
        self._sources = sources
        self.runs = in_work(work, runs)
        self.waits = in_work(work, waits)

    def made_files(self):
        return made_by(self.runs)

    def tree(self):
        return tree_by(self._work, self._sources, self.runs)

    def order(self):
        found = []
        left = list(self.runs)
        while left:
            # Every run here ended, so one of those left looked into folders of names that are told alone.
            name = [one for one in left if all([other in found for other in needs_of(self._work, self.runs[one])])][0]
            found.append(name)
            left.remove(name)
        return found

    def ring(self):
        next_of = {name: self._work.need(self.waits[name]) for name in self.waits}
        return ring_behind(self._work, list(self.waits)[0], next_of) if self.waits else None

    def __eq__(self, other):
        return isinstance(other, Build) and self.runs == other.runs and self.waits == other.waits


def needs_of(work, run):
    """The steps that a run looked into, each once."""
    return needs_in(work, run.sights)


def needs_in(work, sights):
    found = []
    for look, _ in sights:
        name = work.need(look)
        if name is not None and name not in found:
            found.append(name)
    return found


def raise_bad_steps(work, steps):
    """The errors of steps by names; the chooser need not be among them."""
    raise_bad_names(work, steps)
    raise_own_folder(work, {name: steps[name].looks() for name in steps if isinstance(steps[name], Step)})
    for name in work.names():
        if not isinstance(steps.get(name), Step) and (name in steps or name != CHOOSER):
            raise BadName(name)


def shown_by(work, tree, ended):
    """How looks are answered: those that need a step when it is among those that ended, by this tree."""
    def shown(look):
        name = work.need(look)
        return (tree.shown(look),) if name is None or name in ended else None

    return shown


def build(work, steps, sources, wanted):
    raise_bad_sources(work, sources)
    raise_bad_steps(work, steps)
    raise_bad_wanted(work, wanted)
    return clean_build(work, steps, sources, wanted)


def clean_build(work, steps, sources, wanted):
    runs = {}
    waits = {}
    line = list(wanted)
    while line:
        name = line.pop()
        if name in runs:
            continue
        tree = tree_by(work, sources, runs)
        sights, look, end = going(steps.get(name), shown_by(work, tree, runs))
        if end is not None:
            runs[name] = Run(sights, end[0], end[1])
            # Those that waited for it go on.
            line.extend([other for other in waits if work.need(waits[other]) == name])
            waits = {other: waits[other] for other in waits if other != name}
        else:
            waits[name] = look
            if work.need(look) not in waits:
                line.append(work.need(look))
    return Build(work, sources, runs, waits)


def together(work, sources, runs):
    raise_bad_sources(work, sources)
    raise_bad_runs(work, runs)
    return why_not_together(work, sources, runs)


def why_not_together(work, sources, runs):
    told = in_work(work, runs)
    lacks = first_lacking(work, told)
    if lacks is not None:
        return lacks
    tree = tree_by(work, sources, told)
    for name in told:
        for k, (look, answer) in enumerate(told[name].sights):
            if tree.shown(look) != answer:
                return ("untrue", name, k)
    return why_ringed(work, told)


def first_lacking(work, runs):
    """("lacks", name, k) for the first sight that needs a step without a run, None if there is none."""
    for name in runs:
        for k, look in enumerate(looks_in(runs[name])):
            if work.need(look) is not None and work.need(look) not in runs:
                return ("lacks", name, k)
    return None


def why_ringed(work, runs):
    """("ring", names) if runs, which lack none that they need, need one another in a ring, else None."""
    ring = ring_in(work, {name: needs_of(work, runs[name]) for name in runs})
    return None if ring is None else ("ring", ring)


def ring_in(work, needs):
    """A ring in which names need one another, None if there is none; needs is a dict from them to lists."""
    left = needs
    ready = [True]
    while ready:
        ready = [name for name in left if not any([other in left for other in left[name]])]
        left = {name: left[name] for name in left if name not in ready}
    if not left:
        return None
    # Each of those left needs another one of them.
    next_of = {name: [other for other in left[name] if other in left][0] for name in left}
    return ring_behind(work, list(left)[0], next_of)


def ends_of(work, sources, books):
    raise_bad_sources(work, sources)
    raise_bad_books(work, books)
    told = {name: book.all_runs() for name, book in in_work(work, books).items()}
    rows = [((), {})]
    for name in told:
        right = [k for k, run in enumerate(told[name]) if is_true_of_sources(work, sources, run, told)]
        rows = [((*numbers, k), {**runs, name: told[name][k]}) for numbers, runs in rows for k in right
                if is_shown_by(work, runs, name, told[name][k])]
    return [numbers for numbers, _ in rows]


def is_true_of_sources(work, sources, run, told):
    """Whether all sights of a run that need nothing are true in the sources, and all others need one of those told."""
    for look, answer in run.sights:
        name = work.need(look)
        if name is None and sources.shown(look) != answer or name is not None and name not in told:
            return False
    return True


def is_shown_by(work, runs, name, run):
    """Whether what some runs make is as a further one saw it, and what it makes is as they saw it."""
    behind = {**runs, name: run}
    tree = tree_by(work, Tree(), behind)
    for other in behind:
        for look, answer in behind[other].sights:
            if work.need(look) in behind and tree.shown(look) != answer:
                return False
    return True
