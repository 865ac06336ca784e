"""Steps, told as trees of choices, and what is known of a run of one."""

from noteshold.errors import BadEnd, BadSight, BadStep
from noteshold.plain import is_list, met_look, met_made, plain_made, plain_marks
from noteshold.sights import least, plain_sight, raise_apart

# So many answers of folders are looked for again in a tree of choices: more would cost more than they save.
MOST_LISTED = 8


class Step:
    """A step: what it looks at next hangs on what it was shown."""

    def __init__(self, tree):
        met = Met()
        told = plain_tree(tree, (), met)
        if told is None:
            raise BadStep(tuple(met.place[::-1]))
        self._tree = told

    def tree(self):
        return self._tree

    def looks(self):
        return looks_of(self._tree, [])

    def run(self, tree):
        sights = []
        here = self._tree
        while here[0] == "ask":
            answer = tree.shown(here[1])
            sights.append((here[1], answer))
            here = way_behind(here, way_number(here, answer))
        return Run(sights, here[1], here[2])

    def __eq__(self, other):
        return isinstance(other, Step) and same_trees(self._tree, other._tree)


class Run:
    """What is known of a run: its sights, in the order in which the step had them, and its end."""

    def __init__(self, sights, outcome, made=()):
        self.sights = run_sights(sights)
        self.outcome = checked_outcome(outcome)
        self.made = checked_made(made)

    def note(self):
        return least(self.sights)

    def holds(self, tree):
        return all([tree.shown(look) == answer for look, answer in self.sights])

    def ends_as(self, other):
        return self.outcome == other.outcome and self.made == other.made

    def __len__(self):
        return len(self.sights)

    def __eq__(self, other):
        return (isinstance(other, Run) and self.sights == other.sights
                and self.outcome == other.outcome and self.made == other.made)


def run_sights(sights):
    """The tuple of the sights of a run, no look twice, which are true together."""
    if not is_list(sights):
        raise BadSight(0)
    told = []
    seen = {}
    for k, thing in enumerate(sights):
        sight = plain_sight(thing)
        if sight is None or sight[0] in seen:
            raise BadSight(k)
        seen[sight[0]] = True
        told.append(sight)
    raise_apart(told)
    return tuple(told)


def checked_outcome(outcome):
    if not isinstance(outcome, str):
        raise BadEnd(outcome)
    return outcome


def checked_made(made):
    """The ascending tuple of the made files."""
    told = plain_made(made)
    if told is None:
        raise BadEnd(made)
    return told


class Met:
    """What was met so far in a tree of choices, as most of it comes again and again.

    place is the way to the place that is wrong, backwards, where one is.
    """

    def __init__(self):
        self.paths = {}
        self.listed = []
        # The made files of the last end as they were told, and in tuples.
        self.last_told = ()
        self.last_made = ()
        self.place = []


def plain_tree(tree, above, met):
    """The tree of choices in tuples, below looks that stand above; None if it is wrong somewhere."""
    match tree:
        case [word, outcome, files]:
            if word != "end" or not isinstance(outcome, str):
                return None
            if files != met.last_told:
                made = met_made(files, met.paths)
                if made is None:
                    return None
                met.last_told = files
                met.last_made = made
            return ("end", outcome, met.last_made)
        case [word, thing, ways, other]:
            return plain_ask(thing, ways, other, above, met) if word == "ask" else None
        case _:
            return None


def plain_ask(thing, ways, other, above, met):
    look = met_look(thing, met.paths)
    if look is None or look in above or not isinstance(ways, (list, tuple)):
        return None
    # The same look may stand again beside this ask, but not below it.
    seen = (*above, look)
    listed = met.listed if look[0] == "list" else None
    cases = {}
    for case in ways:
        told, part = None, None
        match case:
            case [answer, below]:
                if answer is None or (isinstance(answer, str) if listed is None else answer in listed):
                    told, is_right = answer, True
                else:
                    told = None if listed is None else folder_met(answer, listed)
                    is_right = told is not None
                if is_right and told not in cases:
                    part = plain_tree(below, seen, met)
        if part is None:
            break
        cases[told] = part
    else:
        last = plain_tree(other, seen, met)
        if last is not None:
            return ("ask", look, tuple(cases.items()), last)
    met.place.append(len(cases))
    return None


def folder_met(thing, listed):
    """The answer of a folder as a tuple, None if it is none."""
    told = plain_marks(thing)
    if told is not None and len(listed) < MOST_LISTED:
        listed.append(told)
    return told


def looks_of(tree, found):
    """The list of the looks found so far, and all others of a tree of choices."""
    if tree[0] == "end":
        return found
    told = found if tree[1] in found else [*found, tree[1]]
    for _, part in tree[2]:
        told = looks_of(part, told)
    return looks_of(tree[3], told)


def way_number(ask, answer):
    """The number of the choice behind an answer, that of the other one if no case has it."""
    for k, case in enumerate(ask[2]):
        if case[0] == answer:
            return k
    return len(ask[2])


def way_behind(ask, number):
    return ask[2][number][1] if number < len(ask[2]) else ask[3]


def same_trees(one, other):
    """Whether two trees of choices are the same, cases in any order."""
    if one == other:
        return True
    if one[0] == "end" or other[0] == "end" or one[1] != other[1] or len(one[2]) != len(other[2]):
        return False
    parts = dict(other[2])
    for answer, part in one[2]:
        if answer not in parts or not same_trees(part, parts[answer]):
            return False
    return same_trees(one[3], other[3])
