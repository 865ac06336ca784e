"""Steps, told as trees of choices, and what is known of a run of one."""

from noteshold.errors import BadEnd, BadSight, BadStep
from noteshold.plain import is_list, met_look, met_made, plain_made, plain_marks
from noteshold.sights import least, plain_sight, raise_apart

# So many answers of folders are looked for again in a tree of choices: more would cost more than they save.
MOST_LISTED = 8


class Step:
    """A step: what it looks at next hangs on what it was shown."""

    def __init__(self, tree):
        met = Met()
        told = plain_tree(tree, {}, met)
        if told is None:
            raise BadStep(tuple(met.place[::-1]))
        self._tree = told

    def tree(self):
        return self._tree

    def looks(self):
        return looks_of(self._tree, [])

    def run(self, tree):
        sights = []
        here = self._tree
        while here[0] == "ask":
            answer = tree.shown(here[1])
            sights.append((here[1], answer))
            here = way_behind(here, way_number(here, answer))
        return Run(sights, here[1], here[2])

    def __eq__(self, other):
        return isinstance(other, Step) and same_trees(self._tree, other._tree)


class Run:
    """What is known of a run: its sights, in the order in which the step had them, and its end."""

    def __init__(self, sights, outcome, made=()):
        self.sights = run_sights(sights)
        self.outcome = checked_outcome(outcome)
        self.made = checked_made(made)

    def note(self):
        return least(self.sights)

    def holds(self, tree):
        return all([tree.shown(look) == answer for look, answer in self.sights])

    def ends_as(self, other):
        return self.outcome == other.outcome and self.made == other.made

    def __len__(self):
        return len(self.sights)

    def __eq__(self, other):
        return (isinstance(other, Run) and self.sights == other.sights
                and self.outcome == other.outcome and self.made == other.made)


def run_sights(sights):
    """The tuple of the sights of a run, no look twice, which are true together."""
    if not is_list(sights):
        raise BadSight(0)
    told = []
    seen = {}
    for k, thing in enumerate(sights):
        sight = plain_sight(thing)
        if sight is None or sight[0] in seen:
            raise BadSight(k)
        seen[sight[0]] = True
        told.append(sight)
    raise_apart(told)
    return tuple(told)


def checked_outcome(outcome):
    if not isinstance(outcome, str):
        raise BadEnd(outcome)
    return outcome


def checked_made(made):
    """The ascending tuple of the made files."""
    told = plain_made(made)
    if told is None:
        raise BadEnd(made)
    return told


class Met:
    """What was met so far in a tree of choices, as most of it comes again and again.

    place is the way to the place that is wrong, backwards, where one is.
    """

    def __init__(self):
        self.paths = {}
        self.listed = []
        # The last end as it was told, and in tuples.
        self.end = None
        self.plain = None
        self.place = []


def plain_tree(tree, above, met):
    """The tree of choices in tuples, below looks that stand above; None if it is wrong somewhere."""
    if not isinstance(tree, (tuple, list)):
        return None
    if len(tree) == 4:
        return plain_ask(tree, above, met) if tree[0] == "ask" else None
    if len(tree) != 3 or tree[0] != "end" or not isinstance(tree[1], str):
        return None
    made = met_made(tree[2], met.paths)
    if made is None:
        return None
    met.end = tree
    met.plain = ("end", tree[1], made)
    return met.plain


def plain_ask(tree, above, met):
    look = met_look(tree[1], met.paths)
    if look is None or look in above or not isinstance(tree[2], (tuple, list)):
        return None
    above[look] = True
    is_folder = look[0] == "list"
    listed = met.listed
    cases = {}
    for case in tree[2]:
        part = None
        if isinstance(case, (tuple, list)) and len(case) == 2:
            answer, below = case
            is_right = answer is None or (answer in listed if is_folder else isinstance(answer, str))
            if not is_right and is_folder:
                answer = folder_met(answer, listed)
                is_right = answer is not None
            if is_right and answer not in cases:
                part = met.plain if below == met.end else plain_tree(below, above, met)
        if part is None:
            met.place.append(len(cases))
            return None
        cases[answer] = part
    other = met.plain if tree[3] == met.end else plain_tree(tree[3], above, met)
    if other is None:
        met.place.append(len(cases))
        return None
    # The same look may stand again beside this ask, but not below it.
    del above[look]
    return ("ask", look, tuple(cases.items()), other)


def folder_met(thing, listed):
    """The answer of a folder as a tuple, None if it is none."""
    told = plain_marks(thing)
    if told is not None and len(listed) < MOST_LISTED:
        listed.append(told)
    return told


def looks_of(tree, found):
    """The list of the looks found so far, and all others of a tree of choices."""
    if tree[0] == "end":
        return found
    told = found if tree[1] in found else [*found, tree[1]]
    for _, part in tree[2]:
        told = looks_of(part, told)
    return looks_of(tree[3], told)


def way_number(ask, answer):
    """The number of the choice behind an answer, that of the other one if no case has it."""
    for k, case in enumerate(ask[2]):
        if case[0] == answer:
            return k
    return len(ask[2])


def way_behind(ask, number):
    return ask[2][number][1] if number < len(ask[2]) else ask[3]


def same_trees(one, other):
    """Whether two trees of choices are the same, cases in any order."""
    if one == other:
        return True
    if one[0] == "end" or other[0] == "end" or one[1] != other[1] or len(one[2]) != len(other[2]):
        return False
    parts = dict(other[2])
    for answer, part in one[2]:
        if answer not in parts or not same_trees(part, parts[answer]):
            return False
    return same_trees(one[3], other[3])
