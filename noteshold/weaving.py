"""How hands do steps by turns: what stands, who has what, and what was shown ahead of what."""

from noteshold.goings import going
from noteshold.plain import is_list, is_name, plain_look
from noteshold.steps import Run


class Loom:
    """A weaving that goes on deed by deed."""

    def __init__(self, work, steps, sources, stood):
        self._work = work
        self._steps = steps
        self._sources = sources
        self.stands = work.tree(sources, stood)
        self._standing = {name: dict(stood[name]) for name in stood}
        self.ended = {}
        self.held = {}
        # The pairs of a step and a look at which it was shown files of one that was not done yet.
        self.early = []

    def weave(self, thing):
        """Does a deed, and tells whether any object is one that can be done here."""
        if not is_list(thing) or len(thing) < 2:
            return False
        word = thing[0]
        if word == "begin" and len(thing) == 3:
            return self.begin(thing[1], thing[2])
        if word == "take" and len(thing) == 3:
            return self.take(thing[1], thing[2])
        if len(thing) != 2 or not is_name(thing[1]) or thing[1] not in self.held:
            return False
        if word == "on":
            self.go_on(thing[1])
        if word == "stop":
            del self.held[thing[1]]
        return word == "on" or word == "stop"

    def is_free(self, thing):
        """Whether any object is a step that no hand has."""
        return thing in self._work and thing not in [name for name, _ in self.held.values()]

    def begin(self, hand, name):
        if not is_name(hand) or hand in self.held or not self.is_free(name):
            return False
        self.held[hand] = (name, ())
        return True

    def next_of(self, hand):
        """The look at which the step of a hand goes on, and its end: one of these is None."""
        name, sights = self.held[hand]
        answers = dict(sights)

        def shown(look):
            return (answers[look],) if look in answers else None

        _, look, end = going(self._steps.get(name), shown)
        return (look, end)

    def go_on(self, hand):
        name, sights = self.held[hand]
        look, end = self.next_of(hand)
        if look is None:
            del self.held[hand]
            self.put_in(name, (sights, end[0], end[1]))
        else:
            needed = self._work.need(look)
            if needed is not None and needed not in self.ended:
                self.early.append((name, look))
            self.held[hand] = (name, (*sights, (look, self.stands.shown(look))))

    def take(self, name, run):
        if not self.is_free(name) or not isinstance(run, Run) or not run.holds(self.stands):
            return False
        if any([self._work.need(look) == name for look, _ in run.sights]):
            return False
        self.put_in(name, (run.sights, run.outcome, run.made))
        return True

    def put_in(self, name, seen):
        """The step is done: what it made stands from now on."""
        self.ended[name] = seen
        self._standing[name] = dict(seen[2])
        self.stands = self._work.tree(self._sources, self._standing)


def plain_hold(work, thing):
    """The hold in tuples, None if any object is none."""
    if not is_list(thing) or len(thing) != 2 or thing[0] not in work:
        return None
    look = plain_look(thing[1])
    return None if look is None or work.need(look) is None else (thing[0], look)


def plain_weaving(work, steps, sources, stood, order, early):
    """The deeds of two hands that do these steps in order, but show one of them a look ahead of all that need not be
    done for it; early is a triple (step, look, steps that have to be done ahead)."""
    loom = Loom(work, steps, sources, stood)
    name, look, ahead = early
    place = order.index(name)
    deeds = steps_done(loom, "a", [other for other in order[:place] if other in ahead])
    deeds.append(woven_in(loom, ("begin", "a", name)))
    while look not in [seen for seen, _ in loom.held["a"][1]]:
        deeds.append(woven_in(loom, ("on", "a")))
    deeds.extend(steps_done(loom, "b", [other for other in order[:place] if other not in ahead]))
    while "a" in loom.held:
        deeds.append(woven_in(loom, ("on", "a")))
    return deeds + steps_done(loom, "a", order[place + 1:])


def woven_in(loom, deed):
    """The deed itself, which is done."""
    loom.weave(deed)
    return deed


def steps_done(loom, hand, names):
    """The deeds by which a hand does steps, one after the other, which are done."""
    deeds = []
    for name in names:
        deeds.append(woven_in(loom, ("begin", hand, name)))
        while hand in loom.held:
            deeds.append(woven_in(loom, ("on", hand)))
    return deeds
