"""Times: how long the steps of a build take, with any number of hands and with few."""

from noteshold.builds import needs_of
from noteshold.errors import BadHands, BadLength, NotTogether
from noteshold.forced import why_never_together
from noteshold.plain import is_integer, is_list
from noteshold.works import in_work, raise_bad_runs

MOST_HANDS = 3


def needs_to_time(work, runs, lengths):
    """The dict, in the work's order, from the steps of runs to those that they need; the errors of what is passed."""
    raise_bad_runs(work, runs)
    told = in_work(work, runs)
    why = why_never_together(work, told)
    if why is not None:
        raise NotTogether(why)
    for name in told:
        if not isinstance(lengths, dict) or not is_integer(lengths.get(name)) or lengths[name] < 1:
            raise BadLength(name)
    return {name: needs_of(work, told[name]) for name in told}


def raise_bad_hands(hands):
    if not is_integer(hands) or not 1 <= hands <= MOST_HANDS:
        raise BadHands(hands)


def rests_of(needs, lengths):
    """The dict from the steps to how long it takes from the begin of each until all that need it can be done."""
    rests = {}
    while len(rests) < len(needs):
        for name in needs:
            behind = [other for other in needs if name in needs[other]]
            if name not in rests and all([other in rests for other in behind]):
                rests[name] = lengths[name] + max([rests[other] for other in behind], default=0)
    return rests


def chain_time(work, runs, lengths):
    needs = needs_to_time(work, runs, lengths)
    rests = rests_of(needs, lengths)
    time = max([rests[name] for name in needs], default=0)
    found = []
    left = time
    while left > 0:
        # Lengths are above nought, so one that takes all that is left needs no other one of those that could be told.
        name = [one for one in needs if rests[one] == left and (not found or found[-1] in needs[one])][0]
        found.append(name)
        left = left - lengths[name]
    return (time, found)


class Planner:
    """The search for a plan of the least time: steps are begun as soon as can be, in all orders that needs let be."""

    def __init__(self, needs, lengths, hands):
        self.needs = needs
        self.lengths = lengths
        self.rests = rests_of(needs, lengths)
        self.time = sum([lengths[name] for name in needs]) + 1
        self.plan = []
        self.go_on([0 for _ in range(hands)], {}, [], 0)

    def go_on(self, free, ends, plan, last):
        """Goes on with a plan so far: when each hand is free, and when each step is done that was begun; last is when
        the last one was begun."""
        if len(ends) == len(self.needs):
            time = max(ends.values(), default=0)
            if time < self.time:
                self.time = time
                self.plan = plan
            return
        ready = [name for name in self.needs if name not in ends and all([other in ends for other in self.needs[name]])]
        hand = free.index(min(free))
        for name in ready:
            begin = max([free[hand], *[ends[other] for other in self.needs[name]]])
            # Plans in which steps are not begun in their order come up in another order.
            if begin >= last and begin + self.rests[name] < self.time:
                end = begin + self.lengths[name]
                behind = [end if k == hand else told for k, told in enumerate(free)]
                self.go_on(behind, {**ends, name: end}, [*plan, (begin, hand, name)], begin)


def least_time(work, runs, lengths, hands):
    needs = needs_to_time(work, runs, lengths)
    raise_bad_hands(hands)
    told = Planner(needs, lengths, hands)
    return (told.time, sorted(told.plan))


def is_plan(work, runs, lengths, hands, thing):
    needs = needs_to_time(work, runs, lengths)
    raise_bad_hands(hands)
    if not is_list(thing) or not all([is_begin(needs, hands, part) for part in thing]):
        return False
    told = [tuple(part) for part in thing]
    begins = {name: begin for begin, _, name in told}
    if told != sorted(told) or len(told) != len(needs) or len(begins) != len(needs):
        return False
    free = {}
    for begin, hand, name in told:
        if begin < free.get(hand, 0):
            return False
        if any([begins[other] + lengths[other] > begin for other in needs[name]]):
            return False
        free[hand] = begin + lengths[name]
    return True


def is_begin(needs, hands, thing):
    """Whether any object is a triple of a time, a hand and a step."""
    if not is_list(thing) or len(thing) != 3 or not is_integer(thing[0]) or not is_integer(thing[1]):
        return False
    return thing[0] >= 0 and 0 <= thing[1] < hands and isinstance(thing[2], str) and thing[2] in needs
