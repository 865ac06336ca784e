"""What is left of runs in other sources, the chooser being known, and the choices by which most of it is."""

from noteshold.books import Book
from noteshold.choices import choices, is_lean
from noteshold.choosing import WISH, chosen, end_of, wishes_in
from noteshold.errors import BadChoice
from noteshold.forced import settled_runs, words_in
from noteshold.goings import CHOOSER
from noteshold.index import index_of
from noteshold.meeting import raise_not_together
from noteshold.steps import Run
from noteshold.works import in_work, raise_bad_sources


def words(work, sources, runs, now):
    raise_not_together(work, sources, runs)
    raise_bad_sources(work, now)
    return known_words(work, runs, now)


def known_words(work, runs, now):
    return words_with(work, runs, now, chosen(now).made if CHOOSER in runs else ())


def words_with(work, runs, now, made):
    """The words in other sources, where the chooser makes these files."""
    told = in_work(work, runs)
    books = {name: Book([told[name]]) for name in told}
    if CHOOSER in told:
        books[CHOOSER] = Book([Run([], "", made)])
    found = words_in(work, told, now, settled_runs(work, now, books))
    if CHOOSER in told:
        found[CHOOSER] = "left" if tuple(made) == told[CHOOSER].made else "run"
    return found


def not_left(work, sources, runs, change):
    raise_not_together(work, sources, runs)
    now = sources.after([change])
    raise_bad_sources(work, now)
    return [name for name, word in known_words(work, runs, now).items() if word != "left"]


def words_by(work, sources, runs, now, choice):
    raise_not_together(work, sources, runs)
    raise_bad_sources(work, now)
    wishes = wishes_in(now.shown(WISH))
    if wishes is None or not is_lean(index_of(now), wishes, choice):
        raise BadChoice(choice)
    return words_with(work, runs, now, files_of(choice))


def files_of(choice):
    """What the chooser makes for a choice."""
    return end_of({package: choice[package] for package in sorted(choice)})[1]


def quiet(work, sources, runs, now):
    raise_not_together(work, sources, runs)
    raise_bad_sources(work, now)
    wishes = wishes_in(now.shown(WISH))
    best = None
    # The choices come in their order, so of equally quiet ones the first is ahead.
    for choice in [] if wishes is None else choices(index_of(now), wishes):
        told = words_with(work, runs, now, files_of(choice))
        loudness = (how_often("run", told), how_often("open", told))
        if best is None or loudness < best[0]:
            best = (loudness, choice, told)
    return None if best is None else (best[1], best[2])


def how_often(word, told):
    """How many names but lock have this word."""
    return len([name for name in told if name != CHOOSER and told[name] == word])
