"""Where steps and packages meet: runs that are together, the chooser's among them."""

from noteshold.builds import needs_of, why_not_together
from noteshold.errors import NotChooser, NotTogether
from noteshold.goings import CHOOSER, has_run
from noteshold.plain import first_of
from noteshold.works import in_work, raise_bad_runs, raise_bad_sources


def raise_not_together(work, sources, runs):
    """The errors of runs that are to be together in the sources, one named lock being the chooser's."""
    raise_bad_sources(work, sources)
    raise_bad_runs(work, runs)
    why = why_not_together(work, sources, runs)
    if why is not None:
        raise NotTogether(why)
    if CHOOSER in runs and not has_run(None, runs[CHOOSER]):
        raise NotChooser()


def needed_by(work, runs, name):
    """The dict, in the work's order, of the runs of a name and of all that it needs."""
    found = {}
    line = [name]
    while line:
        here = line.pop()
        if here not in found:
            found[here] = runs[here]
            line.extend(needs_of(work, runs[here]))
    return in_work(work, found)


def own_sights(work, runs):
    """The sights of the notes of runs, but the chooser's, that need nothing, without those that all sources have."""
    return [sight for name in runs if name != CHOOSER for sight in runs[name].note()
            if work.need(sight[0]) is None and first_of(sight[0][1]) not in work]
