"""The errors of the package."""


class TellsError(ValueError):
    """The base of all errors of the package."""


class BadNumber(TellsError):
    """A part is no integer, or no list of integers, or not within its bounds."""

    def __init__(self, part):
        self.part = part


class BadLead(TellsError):
    """A part is no Lead."""

    def __init__(self, part):
        self.part = part


class BadTold(TellsError):
    """A part is no Told."""

    def __init__(self, part):
        self.part = part


class BadFamily(TellsError):
    """A part is no Family."""

    def __init__(self, part):
        self.part = part


class BadWorker(TellsError):
    """A part is no worker of the class that is asked."""

    def __init__(self, part):
        self.part = part


class BadKind(TellsError):
    """A part is no Kind, no KindTold, or no value of a kind."""

    def __init__(self, part):
        self.part = part


class BadManner(TellsError):
    """A part is no manner, or none that is asked here."""

    def __init__(self, part):
        self.part = part


class BadLot(TellsError):
    """A part is no list of lots."""

    def __init__(self, part):
        self.part = part


class Misfit(TellsError):
    """Each part is right alone, but they do not fit together."""

    def __init__(self, part):
        self.part = part


class Missing(TellsError):
    """A value is none here; just the errors below it are raised."""

    def __init__(self, value):
        self.value = value


class NoThing(Missing):
    """A value is no thing of the world."""

    def __init__(self, value):
        self.value = value


class NoPlace(Missing):
    """A value is none of the places."""

    def __init__(self, value):
        self.value = value


class NoWorld(Missing):
    """A value is no world of the family."""

    def __init__(self, value):
        self.value = value


class Twice(TellsError):
    """A value stands twice where each is asked once."""

    def __init__(self, value):
        self.value = value


class TooMany(TellsError):
    """There are more than the most that are told."""

    def __init__(self, what, most):
        self.what = what
        self.most = most


class Impossible(TellsError):
    """Nothing can be answered, as a paper shows."""

    def __init__(self, paper):
        self.paper = paper


class BadText(TellsError):
    """A text has an item that cannot stand, or lacks one."""

    def __init__(self, line, item):
        self.line = line
        self.item = item
