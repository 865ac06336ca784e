"""Several hands at one work: what came of their weaving, and what has to be held so that it comes out right."""

from noteshold.books import Book
from noteshold.builds import clean_build, needs_in, raise_bad_steps, ring_in
from noteshold.errors import BadDeed, BadHold, BadIndex, BadName, Waiting
from noteshold.forced import settled_runs, standings
from noteshold.plain import is_integer, is_list
from noteshold.sights import first_barred
from noteshold.weaving import Loom, plain_hold, plain_weaving
from noteshold.works import in_work, raise_bad_books, raise_bad_sources, raise_bad_wanted, tree_by


class Woven:
    """What came of a weaving: what was seen of the steps that were done, what hands are doing, and what stands."""

    def __init__(self, work, loom):
        self._work = work
        self._stands = loom.stands
        self.done = in_work(work, loom.ended)
        self.doing = {hand: loom.held[hand] for hand in sorted(loom.held)}

    def tree(self):
        return self._stands

    def torn(self):
        return [name for name, (sights, _, _) in self.done.items() if first_barred(sights) is not None]

    def untrue(self):
        return [name for name in self.done if self._first_untrue(name) is not None]

    def _first_untrue(self, name):
        """The number of the first sight of a done step that is untrue now, None if there is none."""
        for k, (look, answer) in enumerate(self.done[name][0]):
            if self._stands.shown(look) != answer:
                return k
        return None

    def _needs(self, name):
        """The steps into whose folders a step looked when it was done."""
        return needs_in(self._work, self.done[name][0]) if name in self.done else []

    def _counted(self, wanted):
        """The dict, in the work's order, from the counted steps to those that they need."""
        raise_bad_wanted(self._work, wanted)
        found = {}
        line = list(wanted)
        while line:
            name = line.pop()
            if name not in found:
                found[name] = self._needs(name)
                line.extend(found[name])
        return in_work(self._work, found)

    def _bad(self, names):
        return [name for name in names if name not in self.done or self._first_untrue(name) is not None]

    def redo(self, wanted):
        bad = self._bad(self._counted(wanted))
        return [name for name in bad if not any([other in bad for other in self._needs_ahead(name)])]

    def _needs_ahead(self, name):
        """The steps that a bad one needs for its looks up to the first that is untrue."""
        if name not in self.done:
            return []
        return needs_in(self._work, self.done[name][0][:self._first_untrue(name) + 1])

    def is_right(self, wanted):
        needs = self._counted(wanted)
        return len(self._bad(needs)) == 0 and ring_in(self._work, needs) is None


def loom_at_first(work, steps, sources, stood):
    raise_bad_sources(work, sources)
    raise_bad_steps(work, steps)
    return Loom(work, steps, sources, stood)


def loom_behind(work, steps, sources, stood, deeds):
    """The loom behind the deeds of a weaving."""
    loom = loom_at_first(work, steps, sources, stood)
    if not is_list(deeds):
        raise BadDeed(0)
    for index, thing in enumerate(deeds):
        if not loom.weave(thing):
            raise BadDeed(index)
    return loom


def weave(work, steps, sources, stood, deeds):
    return Woven(work, loom_behind(work, steps, sources, stood, deeds))


def keeps(work, steps, sources, stood, deeds, holds):
    loom = loom_behind(work, steps, sources, stood, deeds)
    if not is_list(holds):
        raise BadHold(0)
    told = []
    for index, thing in enumerate(holds):
        hold = plain_hold(work, thing)
        if hold is None:
            raise BadHold(index)
        told.append(hold)
    return not any([hold in loom.early for hold in told])


def least_holds(work, steps, sources, stood, wanted):
    made = clean(work, steps, sources, stood, wanted)
    return [(name, look) for name, look, _ in holds_of(work, sources, stood, made)]


def clean(work, steps, sources, stood, wanted):
    """The clean build, which is to have no ring."""
    loom_at_first(work, steps, sources, stood)
    raise_bad_wanted(work, wanted)
    made = clean_build(work, steps, sources, wanted)
    if made.ring() is not None:
        raise Waiting(made.ring())
    return made


def holds_of(work, sources, stood, made):
    """The least holds: triples (step, look, steps that have to be done ahead by holds of its earlier looks)."""
    tree = work.tree(sources, stood)
    found = []
    ahead = {}
    for name in made.order():
        must = []
        for look, answer in made.runs[name].sights:
            needed = work.need(look)
            if needed is not None and needed not in must and tree.shown(look) != answer:
                found.append((name, look, must))
                must = [*must, needed, *ahead[needed]]
        ahead[name] = must
    return found


def bad_weaving(work, steps, sources, stood, wanted, index):
    made = clean(work, steps, sources, stood, wanted)
    holds = holds_of(work, sources, stood, made)
    if not is_integer(index) or not 0 <= index < len(holds):
        raise BadIndex(index)
    return plain_weaving(work, steps, sources, stood, made.order(), holds[index])


def may_begin(work, sources, books, stood, name):
    raise_bad_sources(work, sources)
    raise_bad_books(work, books)
    tree = work.tree(sources, stood)
    if name not in work:
        raise BadName(name)
    told = standings(work, sources, books)[name]
    if told[0] == "settled" and told[1].holds(tree):
        return "sure"
    known = settled_runs(work, sources, books)
    behind = tree_by(work, sources, known)
    way = books.get(name, Book()).way(tree)
    is_vain = any([work.need(look) in known and behind.shown(look) != answer for look, answer in way])
    return "vain" if told[0] == "ring" or is_vain else "open"
