"""Trees: what can be looked at, and what changes of it."""

from noteshold.errors import BadChange, BadLook, BadPath, Blocked
from noteshold.plain import first_of, is_beneath, is_kin, is_list, is_path, plain_look


class Tree:
    """Files by their paths."""

    def __init__(self, files=None):
        told = checked_files(files)
        self._files = {path: told[path] for path in sorted(told)}
        self._folders = folders_of(told)

    def files(self):
        return dict(self._files)

    def folders(self):
        """The dict from the folders to what is in them, ascending."""
        return dict(self._folders)

    def answer(self, look):
        plain = plain_look(look)
        if plain is None:
            raise BadLook(look)
        return self.shown(plain)

    def shown(self, look):
        """The answer of what is known to be a look, in a tuple."""
        if look[0] == "read":
            return self._files.get(look[1])
        return self._folders.get(look[1])

    def after(self, changes):
        if not is_list(changes):
            raise BadChange(0)
        files = self.files()
        for index, change in enumerate(changes):
            if not is_change(change) or not can_be_done(files, change):
                raise BadChange(index)
            if change[0] == "put":
                files[change[1]] = change[2]
            else:
                del files[change[1]]
        return Tree(files)

    def part(self, path):
        if not is_path(path):
            raise BadPath(path)
        beneath = [name for name in self._files if is_beneath(name, path)]
        return Tree({name[len(path) + 1:]: self._files[name] for name in beneath})

    def firsts(self):
        return sorted(set([first_of(path) for path in self._files]))

    def __or__(self, other):
        if not isinstance(other, Tree):
            return NotImplemented
        for path in other._files:
            if any([is_kin(path, standing) for standing in self._files]):
                raise Blocked(path)
        return Tree({**self._files, **other._files})

    def __eq__(self, other):
        return isinstance(other, Tree) and self._files == other._files

    def __len__(self):
        return len(self._files)

    def __contains__(self, x):
        return isinstance(x, str) and x in self._files


def checked_files(files):
    """The dict of files itself ({} for None), if it can be that of a tree."""
    if files is None:
        return {}
    if not isinstance(files, dict):
        raise BadPath(files)
    for path in files:
        if not is_path(path) or not isinstance(files[path], str):
            raise BadPath(path)
    stood = {}
    above = {}
    for path in files:
        folders = folders_above(path)
        if path in above or any([folder in stood for folder in folders]):
            raise Blocked(path)
        stood[path] = True
        for folder in folders:
            above[folder] = True
    return files


def folders_above(path):
    names = path.split("/")
    return ["/".join(names[:size]) for size in range(1, len(names))]


def folders_of(files):
    """The dict from the folders to what is in them: names, those of folders with a stroke behind them."""
    found = {}
    for path in files:
        folders = folders_above(path)
        inner = folders[1:] + [path]
        for k, folder in enumerate(folders):
            stroke = "/" if k < len(folders) - 1 else ""
            found.setdefault(folder, []).append(inner[k][len(folder) + 1:] + stroke)
    return {folder: tuple(sorted(set(found[folder]))) for folder in sorted(list(found))}


def is_change(thing):
    if not is_list(thing) or len(thing) < 2 or not is_path(thing[1]):
        return False
    if thing[0] == "put":
        return len(thing) == 3 and isinstance(thing[2], str)
    return thing[0] == "drop" and len(thing) == 2


def can_be_done(files, change):
    path = change[1]
    if change[0] == "drop":
        return path in files
    return path in files or not any([is_kin(path, standing) for standing in files])


def changes_between(one, other):
    before, behind = one.files(), other.files()
    drops = [("drop", path) for path in before if path not in behind]
    puts = [("put", path, behind[path]) for path in behind if before.get(path) != behind[path]]
    return drops + puts


def touched(one, other):
    reads = [("read", path) for path in unlike_keys(one.files(), other.files())]
    return reads + [("list", path) for path in unlike_keys(one.folders(), other.folders())]


def unlike_keys(one, other):
    """The ascending list of the keys at which two dicts from strings differ."""
    keys = sorted([*one, *[key for key in other if key not in one]])
    return [key for key in keys if one.get(key) != other.get(key)]
