"""Works: steps by their names, whose folders are made by them alone."""

from noteshold.errors import BadLook, BadName, BadSources, OwnFolder
from noteshold.plain import first_of, is_list, is_name, plain_look
from noteshold.trees import Tree


class Work:
    """Steps, known by their names."""

    def __init__(self, names):
        self._names = checked_names(names)

    def names(self):
        return list(self._names)

    def need(self, look):
        plain = plain_look(look)
        if plain is None:
            raise BadLook(look)
        first = first_of(plain[1])
        if first not in self._names or plain == ("read", first):
            return None
        return first

    def tree(self, sources, made):
        raise_bad_sources(self, sources)
        for name in made:
            if name not in self:
                raise BadName(name)
        files = sources.files()
        for name in self._names:
            inner = made.get(name, {})
            for path in inner:
                files[name + "/" + path] = inner[path]
        return Tree(files)

    def __len__(self):
        return len(self._names)

    def __contains__(self, x):
        return x in self._names

    def __eq__(self, other):
        return isinstance(other, Work) and self._names == other._names


def checked_names(names):
    """The tuple of unlike names."""
    if not is_list(names):
        raise BadName(names)
    found = []
    for name in names:
        if not is_name(name) or name in found:
            raise BadName(name)
        found.append(name)
    return tuple(found)


def raise_bad_sources(work, sources):
    for path in sources.files():
        if first_of(path) in work:
            raise BadSources(path)


def raise_bad_names(work, named):
    """BadName for the first key of a dict that is no step."""
    for name in named:
        if name not in work:
            raise BadName(name)


def raise_own_folder(work, looks):
    """OwnFolder for the first step, looks being a dict from steps to lists of looks, that looks into its own folder."""
    for name in work.names():
        for look in looks.get(name, []):
            if work.need(look) == name:
                raise OwnFolder(name)


def raise_bad_runs(work, runs):
    raise_bad_names(work, runs)
    raise_own_folder(work, {name: looks_in(runs[name]) for name in runs})


def raise_bad_books(work, books):
    raise_bad_names(work, books)
    raise_own_folder(work, {name: [look for run in books[name] for look in looks_in(run)] for name in books})


def looks_in(run):
    return [look for look, _ in run.sights]


def raise_bad_wanted(work, wanted):
    """BadName for the first thing that is wanted and is no step."""
    for thing in wanted:
        if thing not in work:
            raise BadName(thing)


def in_work(work, told):
    """A dict told by steps, in the work's order."""
    return {name: told[name] for name in work.names() if name in told}


def made_by(runs):
    """The made files of runs, as dicts."""
    return {name: dict(runs[name].made) for name in runs}


def tree_by(work, sources, runs):
    """The tree of the sources, in which no step's name is a first name, and of the made files of runs."""
    return work.tree(sources, made_by(runs))


def ring_behind(work, name, next_of):
    """The ring to which the way from a name leads, from the first one of it in the work; None if it leads to none.

    next_of is a dict that gives the next name for some names.
    """
    way = []
    while name in next_of and name not in way:
        way.append(name)
        name = next_of[name]
    if name not in way:
        return None
    ring = way[way.index(name):]
    places = [work.names().index(one) for one in ring]
    start = places.index(min(places))
    return ring[start:] + ring[:start]
