"""Indexes of packages, their rows, and wishes."""

from noteshold.errors import BadPlace, BadRow, BadText, BadWish
from noteshold.plain import are_names, is_list, is_name
from noteshold.versions import Range, is_version, range_read, version_of


class Row:
    """What stands for a version of a package."""

    def __init__(self, features=(), needs=(), clashes=()):
        self.features = checked_features(features)
        self.needs = checked_needs(needs, self.features)
        self.clashes = checked_clashes(clashes)

    def text(self):
        lines = [f"feature {name}\n" for name in self.features]
        lines.extend([need_line(need) for need in self.needs])
        lines.extend([f"clash {package} {span.text()}\n" for package, span in self.clashes])
        return "".join(lines)

    @staticmethod
    def read(text):
        row, line = row_read(text)
        if row is None:
            raise BadText(line)
        return row

    def __eq__(self, other):
        return (isinstance(other, Row) and self.features == other.features
                and self.needs == other.needs and self.clashes == other.clashes)


class Index:
    """Rows at their places."""

    def __init__(self, rows=None):
        self._rows = checked_rows({} if rows is None else rows)

    def packages(self):
        return sorted(set([package for package, _ in self._rows]))

    def versions(self, package):
        return sorted([version for name, version in self._rows if name == package])

    def put(self, place, row):
        told = plain_place(place)
        if told is None or not isinstance(row, Row):
            raise BadPlace(place)
        rows = {other: self._rows[other] for other in self._rows}
        rows[told] = row
        return Index(rows)

    def without(self, place):
        told = plain_place(place)
        if told is None:
            raise BadPlace(place)
        return Index({other: self._rows[other] for other in self._rows if other != told})

    def files(self):
        texts = {f"index/{name}/{version}": self._rows[name, version].text() for name, version in self._rows}
        return {path: texts[path] for path in sorted(texts)}

    def __getitem__(self, at):
        told = plain_place(at)
        if told is None:
            raise BadPlace(at)
        return self._rows.get(told)

    def __iter__(self):
        raise TypeError("an index is asked for its places one by one")

    def __len__(self):
        return len(self._rows)

    def __eq__(self, other):
        return isinstance(other, Index) and self._rows == other._rows


def checked_features(features):
    if not are_names(features):
        raise BadRow("features")
    return tuple(features)


def checked_needs(needs, features):
    told = [plain_need(thing, features) for thing in needs] if is_list(needs) else [None]
    if None in told:
        raise BadRow("needs")
    return tuple(told)


def checked_clashes(clashes):
    told = [plain_option(thing) for thing in clashes] if is_list(clashes) else [None]
    if None in told:
        raise BadRow("clashes")
    return tuple(told)


def plain_need(thing, features):
    """The need in tuples, None if the thing is none of a row with these features."""
    if not is_list(thing) or len(thing) != 3:
        return None
    when, options, asks = thing
    if when is not None and when not in features or not is_list(options) or not are_names(asks):
        return None
    told = [plain_option(option) for option in options]
    if len(told) == 0 or None in told or len(told) > 1 and len(asks) > 0:
        return None
    if not are_names([package for package, _ in told]):
        return None
    return (when, tuple(told), tuple(asks))


def plain_option(thing):
    """The pair of a package and a range as a tuple, None if the thing is none."""
    if not is_list(thing) or len(thing) != 2 or not is_name(thing[0]) or not isinstance(thing[1], Range):
        return None
    return tuple(thing)


def plain_place(thing):
    """The place as a tuple, None if the thing is none."""
    if not is_list(thing) or len(thing) != 2 or not is_name(thing[0]) or not is_version(thing[1]):
        return None
    return tuple(thing)


def checked_rows(rows):
    """A new dict with the same rows."""
    for place in rows:
        if plain_place(place) is None or not isinstance(rows[place], Row):
            raise BadPlace(place)
    return {place: rows[place] for place in rows}


def asks_text(asks):
    return "".join([" with ", " ".join(asks)]) if asks else ""


def need_line(need):
    when, options, asks = need
    ahead = "" if when is None else f"when {when} "
    told = " or ".join([f"{package} {span.text()}" for package, span in options])
    return f"{ahead}need {told}{asks_text(asks)}\n"


def row_read(text):
    """The row with this text and 0, or None and the number of the first line that may not stand there."""
    lines = text.split("\n")
    features, needs, clashes = [], [], []
    for k, line in enumerate(lines[:-1]):
        words = line.split(" ")
        if words[0] == "feature" and not needs and not clashes and are_names([*features, *words[1:]]):
            is_right = len(words) == 2
            features.append(words[-1])
        elif words[0] == "clash":
            clashes.append(option_read(words[1:]))
            is_right = clashes[-1] is not None
        else:
            needs.append(need_read(words, features))
            is_right = needs[-1] is not None and not clashes
        if not is_right:
            return (None, k + 1)
    if lines[-1] != "":
        return (None, len(lines))
    return (Row(features, needs, clashes), 0)


def option_read(words):
    """The pair of a package and a range that two words are, None if they are none."""
    if len(words) != 2:
        return None
    return plain_option((words[0], range_read(words[1])))


def need_read(words, features):
    """The need that the words of a line are, in a row with these features, None if they are none."""
    when = None
    if words[0] == "when" and len(words) > 2:
        when, words = words[1], words[2:]
    if words[0] != "need":
        return None
    options = [option_read(words[1:3])]
    place = 3
    while words[place:place + 1] == ["or"]:
        options.append(option_read(words[place + 1:place + 3]))
        place += 3
    return plain_need((when, options, asks_read(words[place:])), features)


def asks_read(words):
    """The list of the names behind the word with, [] if nothing stands there, None if something else does."""
    if not words:
        return []
    if words[0] != "with" or len(words) < 2:
        return None
    return words[1:]


def index_of(tree):
    rows = {}
    for path, text in tree.files().items():
        place = file_place(path)
        row = None if place is None else row_read(text)[0]
        if row is not None:
            rows[place] = row
    return Index(rows)


def file_place(path):
    """The place for which a file of this path stands, None if it stands for none."""
    names = path.split("/")
    if len(names) != 3 or names[0] != "index":
        return None
    return plain_place((names[1], version_of(names[2])))


def plain_wish(thing):
    """The wish in tuples, None if the thing is none."""
    if not is_list(thing) or len(thing) != 3 or not are_names(thing[2]):
        return None
    option = plain_option(thing[:2])
    return None if option is None else (*option, tuple(thing[2]))


def plain_wishes(wishes):
    """The list of the wishes in tuples; BadWish for the first thing that is none."""
    if not is_list(wishes):
        raise BadWish(0)
    found = []
    for k, thing in enumerate(wishes):
        wish = plain_wish(thing)
        if wish is None:
            raise BadWish(k)
        found.append(wish)
    return found


def wish_text(wishes):
    told = plain_wishes(wishes)
    return "".join([f"want {package} {span.text()}{asks_text(asks)}\n" for package, span, asks in told])


def wish_read(text):
    lines = text.split("\n")
    found = []
    for k, line in enumerate(lines[:-1]):
        wish = wish_line_read(line.split(" "))
        if wish is None:
            raise BadText(k + 1)
        found.append(wish)
    if lines[-1] != "":
        raise BadText(len(lines))
    return found


def wish_line_read(words):
    if words[0] != "want" or len(words) < 3:
        return None
    return plain_wish((words[1], range_read(words[2]), asks_read(words[3:])))
