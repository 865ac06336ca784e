"""Steps, told as trees of choices, and what is known of a run of one."""

from noteshold.errors import BadEnd, BadSight, BadStep
from noteshold.plain import is_answer, is_list, plain_answer, plain_look, plain_made
from noteshold.sights import least, plain_sight, raise_apart


class Step:
    """A step: what it looks at next hangs on what it was shown."""

    def __init__(self, tree):
        self._tree = plain_tree(tree, (), [])
        self._unordered = unordered(self._tree)

    def tree(self):
        return self._tree

    def looks(self):
        return looks_of(self._tree, [])

    def run(self, tree):
        sights = []
        here = self._tree
        while here[0] == "ask":
            answer = tree.shown(here[1])
            sights.append((here[1], answer))
            here = way_behind(here, way_number(here, answer))
        return Run(sights, here[1], here[2])

    def __eq__(self, other):
        return isinstance(other, Step) and self._unordered == other._unordered


class Run:
    """What is known of a run: its sights, in the order in which the step had them, and its end."""

    def __init__(self, sights, outcome, made=()):
        self.sights = run_sights(sights)
        self.outcome = checked_outcome(outcome)
        self.made = checked_made(made)

    def note(self):
        return least(self.sights)

    def holds(self, tree):
        return all([tree.shown(look) == answer for look, answer in self.sights])

    def ends_as(self, other):
        return self.outcome == other.outcome and self.made == other.made

    def __len__(self):
        return len(self.sights)

    def __eq__(self, other):
        return (isinstance(other, Run) and self.sights == other.sights
                and self.outcome == other.outcome and self.made == other.made)


def run_sights(sights):
    """The tuple of the sights of a run, no look twice, which are true together."""
    if not is_list(sights):
        raise BadSight(0)
    told = []
    seen = {}
    for k, thing in enumerate(sights):
        sight = plain_sight(thing)
        if sight is None or sight[0] in seen:
            raise BadSight(k)
        seen[sight[0]] = True
        told.append(sight)
    raise_apart(told)
    return tuple(told)


def checked_outcome(outcome):
    if not isinstance(outcome, str):
        raise BadEnd(outcome)
    return outcome


def checked_made(made):
    """The ascending tuple of the made files."""
    told = plain_made(made)
    if told is None:
        raise BadEnd(made)
    return told


def plain_tree(tree, place, above):
    """The tree of choices in tuples; BadStep for the first place that is wrong, below looks that stand above."""
    word = tree[0] if is_list(tree) and len(tree) > 0 else None
    if word == "end":
        return plain_end(tree, place)
    if word == "ask":
        return plain_ask(tree, place, above)
    raise BadStep(place)


def plain_end(tree, place):
    if len(tree) != 3 or not isinstance(tree[1], str):
        raise BadStep(place)
    made = plain_made(tree[2])
    if made is None:
        raise BadStep(place)
    return ("end", tree[1], made)


def plain_ask(tree, place, above):
    look = plain_look(tree[1]) if len(tree) == 4 else None
    if look is None or look in above or not is_list(tree[2]):
        raise BadStep(place)
    behind = [*above, look]
    cases = []
    stood = {}
    for k, case in enumerate(tree[2]):
        here = (*place, k)
        if not is_list(case) or len(case) != 2 or not is_answer(look[0], case[0]):
            raise BadStep(here)
        answer = plain_answer(case[0])
        if answer in stood:
            raise BadStep(here)
        stood[answer] = True
        cases.append((answer, plain_tree(case[1], here, behind)))
    return ("ask", look, tuple(cases), plain_tree(tree[3], (*place, len(cases)), behind))


def looks_of(tree, found):
    """The list of the looks found so far, and all others of a tree of choices."""
    if tree[0] == "end":
        return found
    told = found if tree[1] in found else [*found, tree[1]]
    for _, part in tree[2]:
        told = looks_of(part, told)
    return looks_of(tree[3], told)


def way_number(ask, answer):
    """The number of the choice behind an answer, that of the other one if no case has it."""
    for k, case in enumerate(ask[2]):
        if case[0] == answer:
            return k
    return len(ask[2])


def way_behind(ask, number):
    return ask[2][number][1] if number < len(ask[2]) else ask[3]


def unordered(tree):
    """The tree of choices with its cases in a dict, in which their order does not count."""
    if tree[0] == "end":
        return tree
    cases = {answer: unordered(part) for answer, part in tree[2]}
    return ("ask", tree[1], cases, unordered(tree[3]))
