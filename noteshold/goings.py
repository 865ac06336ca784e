"""How steps, and the chooser, go on from look to look, where not all is shown."""

from noteshold.choosing import chooser_way, chosen
from noteshold.sights import tree_of
from noteshold.steps import way_behind, way_number

CHOOSER = "lock"


def going(step, shown):
    """The sights of a step (None: the chooser), the look that it is not shown, and its end: one of these is None.

    shown gives an answer in a tuple for a look, None where there is no answer yet.
    """
    if step is None:
        return chooser_way(shown)
    sights = []
    here = step.tree()
    while here[0] == "ask":
        told = shown(here[1])
        if told is None:
            return (sights, here[1], None)
        sights.append((here[1], told[0]))
        here = way_behind(here, way_number(here, told[0]))
    return (sights, None, (here[1], here[2]))


def run_in(step, tree):
    """The run of a step (None: the chooser) in a tree."""
    return chosen(tree) if step is None else step.run(tree)


def has_run(step, run):
    """Whether a step (None: the chooser) has a run in some tree."""
    return run_in(step, tree_of(run.sights)) == run
