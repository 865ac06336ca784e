"""Works: steps by their names, whose folders are made by them alone."""

from noteshold.errors import BadLook, BadName, BadSources
from noteshold.plain import first_of, is_list, is_name, plain_look
from noteshold.trees import Tree


class Work:
    """Steps, known by their names."""

    def __init__(self, names):
        self._names = checked_names(names)

    def names(self):
        return list(self._names)

    def need(self, look):
        plain = plain_look(look)
        if plain is None:
            raise BadLook(look)
        first = first_of(plain[1])
        if first not in self._names or plain == ("read", first):
            return None
        return first

    def tree(self, sources, made):
        raise_bad_sources(self, sources)
        for name in made:
            if name not in self:
                raise BadName(name)
        files = sources.files()
        for name in self._names:
            inner = made.get(name, {})
            for path in inner:
                files[name + "/" + path] = inner[path]
        return Tree(files)

    def __len__(self):
        return len(self._names)

    def __contains__(self, x):
        return x in self._names

    def __eq__(self, other):
        return isinstance(other, Work) and self._names == other._names


def checked_names(names):
    """The tuple of unlike names."""
    if not is_list(names):
        raise BadName(names)
    found = []
    for name in names:
        if not is_name(name) or name in found:
            raise BadName(name)
        found.append(name)
    return tuple(found)


def raise_bad_sources(work, sources):
    for path in sources.files():
        if first_of(path) in work:
            raise BadSources(path)
