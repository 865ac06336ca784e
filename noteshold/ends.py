"""How steps end, in all trees: these are gone through by what can be known of them on the ways of the steps."""

from noteshold.errors import BadIndex, BadPath, NoRun
from noteshold.plain import bare, is_integer, is_kin, is_list, is_path
from noteshold.sights import barred, nearest_files, tree_of
from noteshold.steps import Step, way_behind, way_number
from noteshold.trees import Tree

# What is known of a tree is a dict from looks to facts. A fact is a pair: (True, (answer,)) for a look
# whose answer is known, (False, answers) for one of which just these answers are ruled out.


def fresh_name(steps, sights):
    """A name that none of the looks and answers in some steps and sights has."""
    told = list(sights)
    for step in steps:
        told.extend(sights_in(step.tree()))
    names = {}
    for (_, path), answer in told:
        for name in path.split("/"):
            names[name] = True
        if isinstance(answer, tuple):
            for mark in answer:
                names[bare(mark)] = True
    return fresh_word(names)


def fresh_word(words):
    number = 0
    while f"x{number}" in words:
        number += 1
    return f"x{number}"


def sights_in(tree):
    """The list of all looks of a tree of choices with the answers of their cases."""
    if tree[0] == "end":
        return []
    found = [(tree[1], None)]
    for answer, part in tree[2]:
        found.append((tree[1], answer))
        found.extend(sights_in(part))
    found.extend(sights_in(tree[3]))
    return found


def witness(look, fact, name):
    """A sight that stands for a fact, None if the fact bars nothing.

    Facts are true in one tree exactly if no two of their witnesses bar each other: texts, and names in
    a folder, of which nobody speaks can always be had, so answers that are ruled out bar something only
    if there has to be a file or a folder.
    """
    is_known, answers = fact
    if is_known:
        return (look, answers[0])
    if None not in answers:
        return None
    if look[0] == "read":
        return (look, fresh_word(answers))
    return (("read", look[1] + "/" + name), "")


def fits(seen, look, fact, name):
    """Whether some tree has what was seen of other looks and this fact."""
    sight = witness(look, fact, name)
    if sight is None:
        return True
    for other in seen:
        if other != look and is_kin(other[1], look[1]):
            standing = witness(other, seen[other], name)
            if standing is not None and barred(standing, sight):
                return False
    return True


def with_fact(seen, look, fact):
    found = {other: seen[other] for other in seen}
    found[look] = fact
    return found


def branches(ask, seen, name):
    """The pairs (number, fact) of the ways of an ask that trees take in which this was seen."""
    look, cases = ask[1], ask[2]
    is_known, answers = seen.get(look, (False, ()))
    if is_known:
        return [(way_number(ask, answers[0]), (True, answers))]
    told = [(k, (True, (case[0],))) for k, case in enumerate(cases) if case[0] not in answers]
    told.append((len(cases), (False, answers + tuple([case[0] for case in cases]))))
    return [(k, fact) for k, fact in told if fits(seen, look, fact, name)]


def ways(tree, seen, name):
    """The list of all pairs (end, seen) to which trees come in which this was seen, in the order of places."""
    if tree[0] == "end":
        return [((tree[1], tree[2]), seen)]
    found = []
    for k, fact in branches(tree, seen, name):
        found.extend(ways(way_behind(tree, k), with_fact(seen, tree[1], fact), name))
    return found


def unlike_way(tree, seen, name, end):
    """What is seen on the first way that some tree takes to another end than this one, None if there is none."""
    if tree[0] == "end":
        return None if (tree[1], tree[2]) == end else seen
    for k, fact in branches(tree, seen, name):
        found = unlike_way(way_behind(tree, k), with_fact(seen, tree[1], fact), name, end)
        if found is not None:
            return found
    return None


def tree_seen(seen, name):
    """A tree in which all facts are true."""
    told = [witness(look, seen[look], name) for look in seen]
    files = nearest_files({}, [sight for sight in told if sight is not None])
    shown = Tree(files)
    for look in seen:
        is_known, answers = seen[look]
        # A file or a folder that has to be there is made unlike what is ruled out; nobody else is shown this.
        if not is_known and shown.shown(look) in answers:
            if look[0] == "read":
                files[look[1]] = fresh_word(answers)
            else:
                files[look[1] + "/" + name] = ""
    return Tree(files)


def all_ends(step):
    return [end for end, _ in ways(step.tree(), {}, fresh_name([step], []))]


def ends(step):
    found = []
    for end in all_ends(step):
        if end not in found:
            found.append(end)
    return found


def makes(step, path):
    if not is_path(path):
        raise BadPath(path)
    told = [path in dict(made) for _, made in ends(step)]
    return (any(told), all(told))


def parting(one, other):
    name = fresh_name([one, other], [])
    first, second = pruned(one), pruned(other)
    near = looks_near(first.looks(), second.looks())
    tried = {}
    for end, seen in ways(first.tree(), {}, name):
        # Ways that come to one end, and are alike in all that the other step is shown, part alike.
        key = (end, tuple([(look, seen[look]) for look in near if look in seen]))
        if key not in tried:
            tried[key] = True
            found = unlike_way(second.tree(), seen, name, end)
            if found is not None:
                return tree_seen(found, name)
    return None


def looks_near(looks, others):
    """The list of the looks on whose answers those of some of the others can hang."""
    return [look for look in looks if any([is_kin(look[1], other[1]) for other in others])]


def alike(one, other):
    return parting(one, other) is None


def pruned(step):
    return Step(pruned_tree(step.tree(), {}, fresh_name([step], [])))


def pruned_tree(tree, seen, name):
    if tree[0] == "end":
        return tree
    look, cases = tree[1], tree[2]
    kept = [(k, pruned_tree(way_behind(tree, k), with_fact(seen, look, fact), name))
            for k, fact in branches(tree, seen, name)]
    first = kept[0][1]
    if len(kept) == 1 or first[0] == "end" and all([part == first for _, part in kept]):
        return first
    # Where two ways are left, the last one is the other: it is taken unless None is sure.
    return ("ask", look, tuple([(cases[k][0], part) for k, part in kept[:-1]]), kept[-1][1])


def step_reasons(step, run):
    raise_no_run(step, run)
    tree = pruned(step).tree()
    name = fresh_name([step], run.sights)
    found = []
    for numbers in all_numbers(len(run)):
        is_more = any([all([k in numbers for k in reason]) for reason in found])
        if not is_more and is_enough(tree, run, numbers, name):
            found.append(numbers)
    return found


def raise_no_run(step, run):
    if step.run(tree_of(run.sights)) != run:
        raise NoRun()


def all_numbers(many):
    """All ascending tuples of numbers below this one, shorter ones first."""
    found = [()]
    row = [()]
    for _ in range(many):
        row = [(*numbers, k) for numbers in row for k in range(numbers[-1] + 1 if numbers else 0, many)]
        found.extend(row)
    return found


def is_enough(tree, run, numbers, name):
    """Whether a tree of choices ends as a run does wherever the sights of these numbers are true."""
    seen = {run.sights[k][0]: (True, (run.sights[k][1],)) for k in numbers}
    return unlike_way(tree, seen, name, (run.outcome, run.made)) is None


def is_step_reason(step, run, numbers):
    raise_no_run(step, run)
    if not is_list(numbers):
        raise BadIndex(numbers)
    for thing in numbers:
        if not is_integer(thing) or not 0 <= thing < len(run):
            raise BadIndex(thing)
    return is_enough(pruned(step).tree(), run, numbers, fresh_name([step], run.sights))
