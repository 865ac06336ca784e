"""All errors: each keeps what it is made with under the names of its parameters."""


class NoteError(ValueError):
    """What all errors of this package are."""


class BadPath(NoteError):
    """No path, or no text for it."""

    def __init__(self, path):
        self.path = path


class Blocked(NoteError):
    """A path that stands already, or is above or beneath another one."""

    def __init__(self, path):
        self.path = path


class BadLook(NoteError):
    """No look."""

    def __init__(self, look):
        self.look = look


class BadChange(NoteError):
    """No change, or one that cannot be done."""

    def __init__(self, index):
        self.index = index


class BadSight(NoteError):
    """No sight, or one whose look stood before."""

    def __init__(self, index):
        self.index = index


class Apart(NoteError):
    """Two sights that no tree has both."""

    def __init__(self, first, second):
        self.first = first
        self.second = second


class BadPattern(NoteError):
    """No pattern."""

    def __init__(self, thing):
        self.thing = thing


class BadStep(NoteError):
    """A place at which a tree of choices is wrong."""

    def __init__(self, place):
        self.place = place


class BadEnd(NoteError):
    """No outcome, or no list of made files."""

    def __init__(self, thing):
        self.thing = thing


class NoRun(NoteError):
    """The step has no such run."""


class BadIndex(NoteError):
    """No number of anything here."""

    def __init__(self, thing):
        self.thing = thing


class NotOne(NoteError):
    """Two runs that no step has both."""

    def __init__(self, first, second):
        self.first = first
        self.second = second


class Known(NoteError):
    """A run is known, and nothing is open."""

    def __init__(self, which):
        self.which = which


class BadName(NoteError):
    """No name, or none that may stand here."""

    def __init__(self, name):
        self.name = name


class BadSources(NoteError):
    """A source with the first name of a step."""

    def __init__(self, path):
        self.path = path


class OwnFolder(NoteError):
    """A step that looks into its own folder."""

    def __init__(self, name):
        self.name = name


class Ringed(NoteError):
    """Names that wait for one another in a ring."""

    def __init__(self, circle):
        self.circle = circle


class OtherStep(NoteError):
    """A step that does not have all known runs."""

    def __init__(self, name):
        self.name = name


class NotTogether(NoteError):
    """Runs that are no build."""

    def __init__(self, why):
        self.why = why


class BadKept(NoteError):
    """No pair of a sort and what is kept of it."""

    def __init__(self, index):
        self.index = index


class BadSort(NoteError):
    """No sort of sights."""

    def __init__(self, thing):
        self.thing = thing


class BadEntry(NoteError):
    """No entry of a cache."""

    def __init__(self, index):
        self.index = index


class BadAsk(NoteError):
    """No pair of a name and a tree."""

    def __init__(self, index):
        self.index = index


class BadRange(NoteError):
    """No pair of versions, the low one first."""

    def __init__(self, index):
        self.index = index


class BadRow(NoteError):
    """A part of a row that is otherwise than told."""

    def __init__(self, kind):
        self.kind = kind


class BadPlace(NoteError):
    """No place, or no row for it."""

    def __init__(self, place):
        self.place = place


class BadWish(NoteError):
    """No wish."""

    def __init__(self, index):
        self.index = index


class BadChoice(NoteError):
    """No choice, or none of those asked for."""

    def __init__(self, choice):
        self.choice = choice


class BadNumber(NoteError):
    """No integer from 0 on."""

    def __init__(self, number):
        self.number = number


class BadText(NoteError):
    """A line that may not stand there."""

    def __init__(self, line):
        self.line = line


class BadThreat(NoteError):
    """No threat."""

    def __init__(self, threat):
        self.threat = threat


class BadLock(NoteError):
    """No lock."""

    def __init__(self, lock):
        self.lock = lock


class NotRight(NoteError):
    """No right choice."""

    def __init__(self, choice):
        self.choice = choice


class NotChooser(NoteError):
    """A run that the chooser has in no tree."""


class NotTrue(NoteError):
    """A sight that is untrue in the sources."""

    def __init__(self, index):
        self.index = index


class NoPackage(NoteError):
    """No package of the choice."""

    def __init__(self, package):
        self.package = package


class BadShelf(NoteError):
    """No shelf."""

    def __init__(self, name):
        self.name = name


class BadHouse(NoteError):
    """No house, or one whose files may not stand."""

    def __init__(self, name):
        self.name = name


class NoHouse(NoteError):
    """No name of a house."""

    def __init__(self, name):
        self.name = name


class BadDeed(NoteError):
    """No deed, or one that cannot be done."""

    def __init__(self, index):
        self.index = index


class BadManner(NoteError):
    """No manner, or one on a ring."""

    def __init__(self, name):
        self.name = name


class NoStep(NoteError):
    """No name of a step."""

    def __init__(self, name):
        self.name = name


class BadHold(NoteError):
    """No hold."""

    def __init__(self, index):
        self.index = index


class Waiting(NoteError):
    """Steps that wait for one another."""

    def __init__(self, who):
        self.who = who


class BadLength(NoteError):
    """A step without a length."""

    def __init__(self, name):
        self.name = name


class BadHands(NoteError):
    """No number of hands."""

    def __init__(self, hands):
        self.hands = hands


class TooEarly(NoteError):
    """A step that needs itself or a later one."""

    def __init__(self, name, look):
        self.name = name
        self.look = look


class NoCache(NoteError):
    """No name of a cache."""

    def __init__(self, name):
        self.name = name


class Nothing(NoteError):
    """Nothing can be taken back or done again."""
