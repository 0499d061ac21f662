"""The errors of the package. Each one keeps the value that it was made of."""


class DayError(ValueError):
    """The base class of what can be wrong with something that is told."""


class BadPart(DayError):
    """A part of a call is not what is asked for; the part is a word."""

    def __init__(self, part):
        self.part = part


class BadNumber(DayError):
    """A number is not one of those that are let."""

    def __init__(self, number):
        self.number = number


class BadIndex(DayError):
    """An item with this index is wrong, or this is no index."""

    def __init__(self, index):
        self.index = index


class BadName(DayError):
    """A name is none, is not known, or stood there before."""

    def __init__(self, name):
        self.name = name


class BadKey(DayError):
    """A key is none, or is not there."""

    def __init__(self, key):
        self.key = key


class BadErrand(DayError):
    """The errand with this index is wrong."""

    def __init__(self, index):
        self.index = index


class BadOrder(DayError):
    """The order of the counter or room with this name is not just its errands."""

    def __init__(self, name):
        self.name = name


class NoWay(DayError):
    """There is no way for this pair of places."""

    def __init__(self, pair):
        self.pair = pair


class Ring(DayError):
    """The day is barred by this ring."""

    def __init__(self, ring):
        self.ring = ring


class BadThing(DayError):
    """This is no thing of the day."""

    def __init__(self, thing):
        self.thing = thing


class NotSo(DayError):
    """What a call rests on does not hold; the word says what."""

    def __init__(self, word):
        self.word = word


class BadPaper(DayError):
    """A paper is not good."""

    def __init__(self, reason):
        self.reason = reason


class BadTiding(DayError):
    """The tiding with this index is none."""

    def __init__(self, index):
        self.index = index


class BadMenu(DayError):
    """The easing with this index is none, or is not let."""

    def __init__(self, index):
        self.index = index


class BadText(DayError):
    """The line with this index cannot be read."""

    def __init__(self, line):
        self.line = line


class BadDeed(DayError):
    """The deed with this index is wrong."""

    def __init__(self, index):
        self.index = index


class Promised(DayError):
    """A promise with this key is there."""

    def __init__(self, key):
        self.key = key


class Fixed(DayError):
    """The moment with this key has happened."""

    def __init__(self, key):
        self.key = key


class TooMany(OverflowError):
    """There are more than this limit."""

    def __init__(self, limit):
        self.limit = limit


class NothingToUndo(RuntimeError):
    """There is no step of this name."""

    def __init__(self, name):
        self.name = name
