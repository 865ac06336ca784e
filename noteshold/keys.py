"""Views of packages in a choice, keys that tell them, and the plainest builds of packages."""

from noteshold.builds import ring_in
from noteshold.choices import choices, is_choice
from noteshold.errors import BadChoice, BadName, NoPackage, Ringed
from noteshold.hitting import least_hitting, least_masks, mask_by, numbers_in, short_first
from noteshold.plain import is_list, is_name
from noteshold.steps import Run
from noteshold.works import Work


def named_by(index, choice, package):
    """The ascending list of the packages that a chosen one names."""
    needs = index[package, choice[package]].needs
    return sorted(set([other for _, options, _ in needs for other, _ in options]))


def view(index, choice, package):
    raise_no_package(index, choice, package)
    return view_in(index, choice, package)


def raise_no_package(index, choice, package):
    if not is_choice(index, choice):
        raise BadChoice(choice)
    if not is_name(package) or package not in choice:
        raise NoPackage(package)


def view_in(index, choice, package):
    found = {}
    line = [package]
    while line:
        here = line.pop()
        if here not in found:
            found[here] = choice.get(here)
            if here in choice:
                line.extend(named_by(index, choice, here))
    return {name: found[name] for name in sorted(found)}


def plain_packages(package, packages):
    """The list of these packages as it is passed; BadName for the first thing that may not be in a key of a package."""
    if not is_list(packages):
        raise BadName(packages)
    stood = {package: True}
    for thing in packages:
        if not is_name(thing) or thing in stood:
            raise BadName(thing)
        stood[thing] = True
    return packages


def unlike_views(index, told, package):
    """The pairs of numbers of choices that have a package in one version, and unlike views of it."""
    views = {k: view_in(index, choice, package) for k, choice in enumerate(told) if package in choice}
    return [(i, j) for i in views for j in views
            if i < j and told[i][package] == told[j][package] and views[i] != views[j]]


def is_key(index, wishes, package, packages):
    return first_twins(index, wishes, package, packages) is None


def twins(index, wishes, package, packages):
    return first_twins(index, wishes, package, packages)


def first_twins(index, wishes, package, packages):
    told = choices(index, wishes)
    names = plain_packages(package, packages)
    for i, j in unlike_views(index, told, package):
        if all([told[i].get(name) == told[j].get(name) for name in names]):
            return (i, j)
    return None


def keys(index, wishes, package):
    told = choices(index, wishes)
    names = index.packages()
    masks = []
    for i, j in unlike_views(index, told, package):
        masks.append(mask_by([k for k, name in enumerate(names) if told[i].get(name) != told[j].get(name)]))
    # A set is a key just if it has a package in common with what each pair of unlike views does otherwise.
    found = least_hitting(least_masks(masks))
    return short_first([tuple([names[k] for k in numbers_in(mask)]) for mask in found])


def view_runs(index, choice, package):
    raise_no_package(index, choice, package)
    packages = [name for name, version in view_in(index, choice, package).items() if version is not None]
    others = {name: [other for other in named_by(index, choice, name) if other != name] for name in packages}
    circle = ring_in(Work(packages), others)
    if circle is not None:
        raise Ringed(circle)
    return {name: view_run(index, choice, name, others[name]) for name in packages}


def view_run(index, choice, package, others):
    """The run of the plainest build of a package, which names these others."""
    sights = [(("read", "lock/" + package), str(choice[package]))]
    for other in others:
        sights.append((("read", "lock/" + other), str(choice[other]) if other in choice else None))
    for other in others:
        if other in choice:
            sights.append((("read", other + "/view"), view_text(view_in(index, choice, other))))
    return Run(sights, "", [("view", view_text(view_in(index, choice, package)))])


def view_text(told):
    return ", ".join([name + " " + ("-" if told[name] is None else str(told[name])) for name in told])
