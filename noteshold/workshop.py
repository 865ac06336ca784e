"""A live workshop: houses that build, caches that keep what they built, and deeds that can be taken back."""

from noteshold.caches import Cache, with_entries
from noteshold.choosing import chosen
from noteshold.deeds import plain_deed
from noteshold.errors import BadDeed, BadHouse, BadName, NoCache, NoHouse, Nothing, TooEarly
from noteshold.plain import is_name
from noteshold.stages import first_barred_house, stage_behind
from noteshold.steps import Step
from noteshold.works import Work


class Workshop:
    """The houses of a stage, the steps that they build, and one rule for all their caches."""

    def __init__(self, stage, steps, rule):
        self._work = work_of(steps)
        raise_too_early(self._work, steps)
        house = first_barred_house(stage, steps)
        if house is not None:
            raise BadHouse(house)
        self._steps = dict(steps)
        self._rule = rule
        caches = {cache: Cache(rule) for _, _, cache in stage.houses().values()}
        self._now = State(stage, caches, {}, (), None)
        # The states behind the deeds that can be done again, the next one first.
        self._undone = ()

    def do(self, deed):
        now = self._now
        told = plain_deed(deed)
        there = None if told is None else stage_behind(now.ground, told, {})
        if there is None or first_barred_house(there, self._steps) is not None:
            raise BadDeed(0)
        caches, builds = dict(now.caches), dict(now.builds)
        answer = None
        if told[0] == "choose":
            answer = chosen(now.ground.sources(told[1])).outcome
        if told[0] == "lose":
            caches[told[1]] = Cache(self._rule)
        if told[0] == "build":
            cache = now.ground.houses()[told[1]][2]
            built = Built(self._work, self._steps, now.ground.sources(told[1]), caches[cache])
            caches[cache] = with_entries(caches[cache], [(told[1], name, run) for name, run in built.entries()])
            builds[told[1]] = built
            answer = built.triples()
        self._now = State(there, caches, builds, (*now.row, told), now)
        self._undone = ()
        return answer

    def stage(self):
        return self._now.ground

    def cache(self, name):
        if not is_name(name) or name not in self._now.caches:
            raise NoCache(name)
        return self._now.caches[name]

    def runs_of(self, house):
        built = self._built(house)
        return {} if built is None else dict(built.runs)

    def tree(self, house):
        built = self._built(house)
        return None if built is None else built.stood

    def is_clean(self, house):
        built = self._built(house)
        if built is None:
            return True
        clean = Built(self._work, self._steps, built.origin, Cache(self._rule))
        return all([built.runs[name].made == clean.runs[name].made for name in clean.runs])

    def _built(self, house):
        """The last build of a house, None if there was none."""
        if not is_name(house) or house not in self._now.ground.houses():
            raise NoHouse(house)
        return self._now.builds.get(house)

    def deeds(self):
        return list(self._now.row)

    def undo(self):
        now = self._now
        if now.before is None:
            raise Nothing()
        self._now = now.before
        self._undone = (now, *self._undone)
        return now.row[-1]

    def again(self):
        if not self._undone:
            raise Nothing()
        self._now = self._undone[0]
        self._undone = self._undone[1:]
        return self._now.row[-1]

    def copy(self):
        made = Workshop(self._now.ground, self._steps, self._rule)
        made._now = self._now
        made._undone = self._undone
        return made

    def trial(self, work):
        now, undone = self._now, self._undone
        try:
            return work(self)
        finally:
            self._now, self._undone = now, undone

    def __len__(self):
        return len(self._now.row)


class State:
    """How a workshop is behind a row of deeds: its stage, its caches, the last builds of its houses, and the state
    ahead of the last deed. It never changes."""

    def __init__(self, stage, caches, builds, row, before):
        self.ground = stage
        self.caches = caches
        self.builds = builds
        self.row = row
        self.before = before


class Built:
    """A build of all steps, one after the other, in which those are left out for which the cache answers."""

    def __init__(self, work, steps, sources, cache):
        self.origin = sources
        self.runs = {}
        self.words = {}
        made = {}
        for name in work.names():
            tree = work.tree(sources, made)
            number = cache.answer(name, tree)
            self.words[name] = "ran" if number is None else "left"
            self.runs[name] = steps[name].run(tree) if number is None else cache.entries()[number][2]
            made[name] = dict(self.runs[name].made)
        self.stood = work.tree(sources, made)

    def entries(self):
        """The pairs of a name and a run of the steps that were run."""
        return [(name, self.runs[name]) for name in self.runs if self.words[name] == "ran"]

    def triples(self):
        return [(name, self.words[name], self.runs[name].outcome) for name in self.runs]


def work_of(steps):
    """The work of the steps, in the order in which they are built."""
    if not isinstance(steps, dict):
        raise BadName(steps)
    for name in steps:
        if not is_name(name) or name == "lock" or not isinstance(steps[name], Step):
            raise BadName(name)
    return Work(list(steps))


def raise_too_early(work, steps):
    """TooEarly for the first step that looks into its own folder or into that of a later step."""
    names = work.names()
    for place, name in enumerate(names):
        for look in steps[name].looks():
            if work.need(look) in names[place:]:
                raise TooEarly(name, look)
