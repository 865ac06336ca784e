"""What notes settle for all steps that have the known runs, and what therefore has to be run."""

from noteshold.ends import fresh_word
from noteshold.books import Book, step_of
from noteshold.builds import clean_build, first_lacking, raise_bad_steps, shown_by, why_ringed
from noteshold.errors import BadName, Known, NotTogether, OtherStep, Ringed
from noteshold.goings import going, has_run
from noteshold.plain import first_of
from noteshold.sights import barred
from noteshold.steps import Run
from noteshold.trees import Tree
from noteshold.works import in_work, looks_in, raise_bad_books, raise_bad_runs, raise_bad_sources, raise_bad_wanted
from noteshold.works import ring_behind, tree_by


def settled(work, sources, books):
    raise_bad_sources(work, sources)
    raise_bad_books(work, books)
    return settled_runs(work, sources, books)


def settled_runs(work, sources, books):
    found = {}
    many = -1
    while many < len(found):
        many = len(found)
        known = list(found)
        tree = tree_by(work, sources, found)
        for name in books:
            for run in books[name]:
                if name not in known and is_decided(work, run, known) and run.holds(tree):
                    found[name] = run
    return in_work(work, found)


def is_decided(work, run, known):
    """Whether all looks of a run need nothing or one of those known."""
    return all([work.need(look) is None or work.need(look) in known for look in looks_in(run)])


def standing(work, sources, books):
    raise_bad_sources(work, sources)
    raise_bad_books(work, books)
    return standings(work, sources, books)


def standings(work, sources, books):
    known = settled_runs(work, sources, books)
    shown = shown_by(work, tree_by(work, sources, known), known)
    told = {name: known_way(books.get(name, ()), shown) for name in work.names() if name not in known}
    next_of = {name: work.need(look) for name, (_, look) in told.items() if look is not None}
    found = {}
    for name in work.names():
        ring = ring_behind(work, name, next_of)
        if name in known:
            found[name] = ("settled", known[name])
        elif ring is not None:
            found[name] = ("ring", ring)
        elif name in next_of:
            found[name] = ("waits", next_of[name], told[name][0])
        else:
            found[name] = ("open", told[name][0])
    return found


def known_way(book, shown):
    """The sights that are known ahead of any further run, and the look behind them that is not shown, or None."""
    sights = []
    runs = [run for run in book]
    while runs and len(runs[0]) > len(sights):
        look = runs[0].sights[len(sights)][0]
        told = shown(look)
        if told is None:
            return (sights, look)
        sights.append((look, told[0]))
        runs = [run for run in runs if run.sights[:len(sights)] == tuple(sights)]
    return (sights, None)


def two_works(work, sources, books, name):
    raise_bad_sources(work, sources)
    raise_bad_books(work, books)
    if name not in work:
        raise BadName(name)
    stands = standings(work, sources, books)
    if stands[name][0] == "settled":
        raise Known(stands[name][1])
    if stands[name][0] == "ring":
        raise Ringed(stands[name][1])
    return (work_with(work, books, stands, name, "one"), work_with(work, books, stands, name, "other"))


def work_with(work, books, stands, name, outcome):
    """Steps that have all known runs, in whose clean build this name ends with this outcome."""
    made = {}
    here = name
    while stands[here][0] == "waits":
        _, needed, way = stands[here]
        runs = [run for run in books[here] if run.sights[:len(way)] == tuple(way)]
        made[needed] = [unseen_file(runs, len(way))]
        here = needed
    return {one: step_of(books.get(one, Book()), outcome if one == name else "", made.get(one, []))
            for one in work.names()}


def unseen_file(runs, place):
    """A file of a step, at whose sight none of these runs goes on as it did at this place."""
    word, path = runs[0].sights[place][0]
    answers = [run.sights[place][1] for run in runs]
    told = [answer for answer in answers if isinstance(answer, str)]
    told.extend([mark for answer in answers if isinstance(answer, tuple) for mark in answer])
    inner = path.partition("/")[2]
    if word == "read":
        return (inner, fresh_word(told))
    return (f"{inner}/{fresh_word(told)}" if inner else fresh_word(told), "")


def forced(work, sources, books, wanted):
    raise_bad_sources(work, sources)
    raise_bad_books(work, books)
    raise_bad_wanted(work, wanted)
    return forced_names(work, sources, books, wanted)


def forced_names(work, sources, books, wanted):
    stands = standings(work, sources, books)
    found = {}
    for name in wanted:
        here = name
        while stands[here][0] == "waits":
            here = stands[here][1]
        if stands[here][0] == "open":
            found[here] = True
    return list(in_work(work, found))


class Rebuilt:
    """What whoever is right for all steps has run, what is known then, and the build that comes of it."""

    def __init__(self, ran, books, made):
        self.ran = ran
        self.books = books
        self.build = made


def rebuilt(work, steps, sources, books, wanted):
    raise_bad_sources(work, sources)
    raise_bad_books(work, books)
    raise_bad_steps(work, steps)
    raise_bad_wanted(work, wanted)
    for name, book in in_work(work, books).items():
        if not all([has_run(steps.get(name), run) for run in book]):
            raise OtherStep(name)
    known = dict(books)
    ran = {}
    asked = {name: True for name in wanted}
    is_done = False
    while not is_done:
        before = (len(ran), len(asked))
        for name in forced_names(work, sources, known, list(asked)):
            ran[name] = True
        is_done = not go_on(work, steps, sources, known, ran, asked) and before == (len(ran), len(asked))
    return Rebuilt(list(in_work(work, ran)), in_work(work, known), clean_build(work, steps, sources, wanted))


def go_on(work, steps, sources, known, ran, asked):
    """Lets each step that was begun go on: it ends, and is known, or it asks for one that is not settled.

    Tells whether one ended.
    """
    ended = settled_runs(work, sources, known)
    shown = shown_by(work, tree_by(work, sources, ended), ended)
    is_more = False
    for name in ran:
        if name not in ended:
            sights, look, end = going(steps.get(name), shown)
            if end is None:
                asked[work.need(look)] = True
            else:
                known[name] = known.get(name, Book()).more(Run(sights, end[0], end[1]))
                is_more = True
    return is_more


def again_needed(work, runs, later):
    raise_bad_sources(work, later)
    raise_bad_runs(work, runs)
    told = in_work(work, runs)
    why = why_never_together(work, told)
    if why is not None:
        raise NotTogether(why)
    return words_in(work, told, later, settled_runs(work, later, {name: Book([told[name]]) for name in told}))


def words_in(work, runs, later, left):
    """What is sure of each name of runs in later sources, where these are the runs that are settled there."""
    tree = tree_by(work, later, left)
    found = {}
    for name in runs:
        sights = [sight for sight in runs[name].sights if work.need(sight[0]) is None or work.need(sight[0]) in left]
        is_true = all([tree.shown(look) == answer for look, answer in sights])
        found[name] = "left" if name in left else "open" if is_true else "run"
    return found


def why_never_together(work, runs):
    """Why runs are together in no sources, None if they are in some."""
    lacks = first_lacking(work, runs)
    if lacks is not None:
        return lacks
    tree = tree_by(work, Tree(), runs)
    bare_sights = []
    for name in runs:
        for k, (look, answer) in enumerate(runs[name].sights):
            if work.need(look) is None and first_of(look[1]) not in work:
                bare_sights.append((name, k, (look, answer)))
            elif tree.shown(look) != answer:
                return ("untrue", name, k)
    for i, (name, k, sight) in enumerate(bare_sights):
        for other, number, seen in bare_sights[i + 1:]:
            if barred(sight, seen):
                return ("apart", name, k, other, number)
    return why_ringed(work, runs)
