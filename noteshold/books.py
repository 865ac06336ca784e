"""What is known of steps by their runs alone."""

from noteshold.errors import Known, NotOne
from noteshold.steps import Run, Step


def clash(one, other):
    for k in range(min(len(one), len(other))):
        if one.sights[k] != other.sights[k]:
            return one.sights[k][0] != other.sights[k][0]
    return len(one) != len(other) or not one.ends_as(other)


def one_reader(runs):
    return left_out(runs, list(range(len(runs))), 0)[0]


def ways_to_one(runs):
    return left_out(runs, list(range(len(runs))), 0)[1]


def left_out(runs, numbers, place):
    """The first least list of numbers to be left out, and how many such lists there are.

    The runs with these numbers have the same sights ahead of the place. Those that go on with one look stay
    together, whatever its answers are, and those that end, with one end; no others do.
    """
    if not numbers:
        return ([], 1)
    ways = [without(numbers, group, [], 1) for group in ended_groups(runs, numbers, place)]
    for groups in going_groups(runs, numbers, place):
        dropped = []
        many = 1
        for group in groups:
            told, count = left_out(runs, group, place + 1)
            dropped = dropped + told
            many = many * count
        ways.append(without(numbers, [k for group in groups for k in group], dropped, many))
    fewest = min([len(dropped) for dropped, _ in ways])
    best = [way for way in ways if len(way[0]) == fewest]
    return (min([dropped for dropped, _ in best]), sum([many for _, many in best]))


def without(numbers, kept, dropped, many):
    """The ascending list of the numbers that are dropped, or not among those kept at all, and the count told."""
    stay = {k: True for k in kept if k not in dropped}
    return ([k for k in numbers if k not in stay], many)


def ended_groups(runs, numbers, place):
    """The lists of the numbers of the runs that end here, those with one end in one list."""
    groups = {}
    for k in numbers:
        if len(runs[k]) == place:
            groups.setdefault((runs[k].outcome, runs[k].made), []).append(k)
    return list(groups.values())


def going_groups(runs, numbers, place):
    """For each look with which runs go on, the lists of their numbers, those with one answer in one list."""
    looks = {}
    for k in numbers:
        if len(runs[k]) > place:
            look, answer = runs[k].sights[place]
            looks.setdefault(look, {}).setdefault(answer, []).append(k)
    return [list(groups.values()) for groups in looks.values()]


class Book:
    """What is known of one step: unlike runs, no two of which clash."""

    def __init__(self, runs=()):
        for i in range(len(runs)):
            for j in range(i + 1, len(runs)):
                if clash(runs[i], runs[j]):
                    raise NotOne(i, j)
        self._runs = unlike(runs)

    def all_runs(self):
        return list(self._runs)

    def more(self, run):
        return Book(self.all_runs() + [run])

    def says(self, tree):
        for run in self._runs:
            if run.holds(tree):
                return run
        return None

    def way(self, tree):
        sights = []
        runs = self._runs
        # No two runs clash, so those that go on behind the same sights go on with one look, and then none ends.
        while runs and len(runs[0]) > len(sights):
            look = runs[0].sights[len(sights)][0]
            sights.append((look, tree.shown(look)))
            runs = [run for run in runs if run.sights[:len(sights)] == tuple(sights)]
        return sights

    def __iter__(self):
        return iter(self._runs)

    def __len__(self):
        return len(self._runs)

    def __contains__(self, x):
        return isinstance(x, Run) and x in self._runs

    def __eq__(self, other):
        return isinstance(other, Book) and have_same(self._runs, other._runs)


def unlike(runs):
    found = []
    for run in runs:
        if run not in found:
            found.append(run)
    return found


def have_same(one, other):
    """Whether two lists of unlike runs have the same ones, in any order."""
    return len(one) == len(other) and all([run in other for run in one])


def step_of(book, outcome, made=()):
    last = Run([], outcome, made)
    return Step(grown(book.all_runs(), 0, ("end", last.outcome, last.made)))


def grown(runs, place, end):
    """The tree of choices that has these runs, which have the same sights ahead of the place, and this end else."""
    if not runs:
        return end
    first = runs[0]
    if len(first) == place:
        return ("end", first.outcome, first.made)
    groups = {}
    for run in runs:
        groups.setdefault(run.sights[place][1], []).append(run)
    cases = [(answer, grown(groups[answer], place + 1, end)) for answer in groups]
    return ("ask", first.sights[place][0], cases, end)


def two_steps(book, tree):
    run = book.says(tree)
    if run is not None:
        raise Known(run)
    return (step_of(book, "one"), step_of(book, "other"))


def moved_runs(book, one, other):
    return [k for k, run in enumerate(book.all_runs()) if run.holds(one) != run.holds(other)]


def stays(book, one, other):
    before, behind = book.says(one), book.says(other)
    return before is not None and behind is not None and before.ends_as(behind)
