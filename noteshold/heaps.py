"""What entries of a cache can be found in, by their notes: these are told as lists of sights."""

from noteshold.books import clash
from noteshold.ends import fits, fresh_name, tree_seen, with_fact
from noteshold.plain import is_list, is_name
from noteshold.sights import first_barred
from noteshold.steps import Run


def plain_entry(thing):
    """The entry as a tuple, None if the thing is none."""
    if not is_list(thing) or len(thing) != 3 or not isinstance(thing[2], Run):
        return None
    return tuple(thing) if is_name(thing[0]) and is_name(thing[1]) else None


def first_pair(entries, is_such):
    """The first pair of numbers of entries of one name of which something is so, None if there is none."""
    for i, one in enumerate(entries):
        for j in range(i + 1, len(entries)):
            if one[1] == entries[j][1] and is_such(i, j):
                return (i, j)
    return None


def clashing_pair(entries):
    def is_such(i, j):
        return clash(entries[i][2], entries[j][2])

    return first_pair(entries, is_such)


def unlike_pair(entries, notes):
    """The first pair of numbers of entries of one name with unlike ends that are found in one tree, None if none is."""
    def is_such(i, j):
        return not entries[i][2].ends_as(entries[j][2]) and first_barred(notes[i] + notes[j]) is None

    return first_pair(entries, is_such)


def tree_of_notes(found, others):
    """A tree in which all sights of the notes found are true, and of each of the others one is not; None if there
    is none."""
    known = [sight for note in found for sight in note]
    if first_barred(known) is not None:
        return None
    name = fresh_name([], [*known, *[sight for note in others for sight in note]])
    seen = seen_without({look: (True, (answer,)) for look, answer in known}, others, name)
    return None if seen is None else tree_seen(seen, name)


def seen_without(seen, notes, name):
    """What is seen, and of each note more by which one of its sights is untrue; None if that cannot be."""
    ways = [untrue_ways(seen, note, name) for note in notes if not is_untrue(seen, note)]
    if not ways:
        return seen
    # Where the fewest ways are left, all others are tried the least.
    fewest = min([len(facts) for facts in ways])
    for look, fact in [facts for facts in ways if len(facts) == fewest][0]:
        found = seen_without(with_fact(seen, look, fact), notes, name)
        if found is not None:
            return found
    return None


def is_untrue(seen, note):
    """Whether a sight of a note is untrue by what is seen of its own look."""
    for look, answer in note:
        is_known, answers = seen.get(look, (False, ()))
        if (answer in answers) != is_known:
            return True
    return False


def untrue_ways(seen, note, name):
    """The pairs (look, fact) by which a note becomes untrue where it is not yet."""
    found = []
    for look, answer in note:
        is_known, answers = seen.get(look, (False, ()))
        fact = (False, (*answers, answer))
        if not is_known and fits(seen, look, fact, name):
            found.append((look, fact))
    return found
