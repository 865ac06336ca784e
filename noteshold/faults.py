"""Steps that show that something is wrong: each looks, behind its firsts, at one thing at most."""

from noteshold.ends import fresh_word
from noteshold.manners import in_hanging_order
from noteshold.steps import Step
from noteshold.works import Work


def steps_that_show(manners, sources, chain):
    """Steps, each behind those on which it hangs, of which those of the chain make other files wherever one of their
    looks is not answered as in these sources.

    The chain is a list of triples (step, look, sort of its sight here), each look but the last one being into the
    folder of the next step.
    """
    looks = {name: look for name, look, _ in chain}
    made = made_by_chain(manners, chain)
    order = in_hanging_order(manners)
    tree = Work(order).tree(sources, {name: dict(made[name][0]) for name in made})
    found = {}
    for name in order:
        firsts = [("read", first) for first in manners[name][0]]
        if name in looks:
            told = firsts if looks[name] in firsts else [*firsts, looks[name]]
            sights = [(look, tree.shown(look)) for look in told]
            here, there = made[name]
            found[name] = Step(asks_for(sights, len(firsts), here, there))
        else:
            found[name] = Step(asks_without(firsts, ()))
    return found


def made_by_chain(manners, chain):
    """The dict from the steps of a chain to the pair of what they make here, and of what they make else."""
    names = {part: True for firsts, _ in manners.values() for first in firsts for part in first.split("/")}
    one = fresh_word(names)
    other = fresh_word({**names, one: True})
    found = {chain[0][0]: ([(one, "1")], [(one, "2")])}
    for k, (_, look, sort) in enumerate(chain[:-1]):
        inner = look[1].partition("/")[2]
        ahead = inner + "/" if inner else ""
        ways = {"contents": ([(inner, "1")], [(inner, "2")]), "lacking": ([], [(inner, "1")]),
                "names": ([(ahead + one, "")], [(ahead + other, "")]), "nofolder": ([], [(ahead + one, "")])}
        found[chain[k + 1][0]] = ways[sort]
    return found


def asks_for(sights, many, here, there):
    """A tree of choices with these sights, which ends with these files behind them all, and with those else.

    The first looks, so many, stand on each way.
    """
    tree = ("end", "", here)
    for k in range(len(sights) - 1, -1, -1):
        look, answer = sights[k]
        tree = ("ask", look, [(answer, tree)], asks_without([other for other, _ in sights[k + 1:many]], there))
    return tree


def asks_without(looks, made):
    """A tree of choices with these looks, which ends with these files whatever it is shown."""
    tree = ("end", "", made)
    for look in looks[::-1]:
        tree = ("ask", look, [], tree)
    return tree
