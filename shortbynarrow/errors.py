"""The error classes of the package; their attributes are the arguments of the constructor."""


class Trouble(Exception):
    """What all errors of the package have in common."""


class BadNumber(Trouble):
    """An argument is not an integer in its range."""

    def __init__(self, word):
        self.word = word


class BadAmount(Trouble):
    """An argument stands for no amount."""

    def __init__(self, word):
        self.word = word


class BadSet(Trouble):
    """An argument is no set of things."""

    def __init__(self, place):
        self.place = place


class BadRow(Trouble):
    """An argument is no row."""

    def __init__(self, place):
        self.place = place


class BadLots(Trouble):
    """An argument is no list of lots."""

    def __init__(self, place):
        self.place = place


class EmptyLot(Trouble):
    """A lot is empty."""

    def __init__(self, place):
        self.place = place


class NoLots(Trouble):
    """There is no lot."""


class BadFamily(Trouble):
    """An entry is no family."""

    def __init__(self, place):
        self.place = place


class BadThing(Trouble):
    """An argument is no thing of the family."""

    def __init__(self, thing):
        self.thing = thing


class BadNames(Trouble):
    """An argument is no list of names."""

    def __init__(self, place):
        self.place = place


class BadMix(Trouble):
    """An argument is no list of sets with their weights."""

    def __init__(self, place):
        self.place = place


class BadPlay(Trouble):
    """The parts of a play do not fit."""

    def __init__(self, word):
        self.word = word


class BadTree(Trouble):
    """The parts of a tree do not fit."""

    def __init__(self, word):
        self.word = word


class BadNet(Trouble):
    """The parts of a net do not fit."""

    def __init__(self, place):
        self.place = place


class BadStretch(Trouble):
    """A stretch has no low and high number in this order."""

    def __init__(self, place):
        self.place = place


class BadDeed(Trouble):
    """A value has not the form of a deed."""

    def __init__(self, word):
        self.word = word


class OtherSize(Trouble):
    """A row or a list has another length than the one asked for."""

    def __init__(self, size):
        self.size = size


class Lost(Trouble):
    """A part does not exist."""

    def __init__(self, thing, word):
        self.thing = thing
        self.word = word


class Clash(Trouble):
    """A thing is both left out and held."""

    def __init__(self, thing):
        self.thing = thing


class NotCover(Trouble):
    """A row has less than 1 on a lot."""

    def __init__(self, lot):
        self.lot = lot


class NotCouples(Trouble):
    """A lot has not two things."""

    def __init__(self, lot):
        self.lot = lot


class NotOnce(Trouble):
    """A name is on two leaves of a tree."""

    def __init__(self, name):
        self.name = name


class NoWay(Trouble):
    """A net has no way from end to end."""


class NothingBack(Trouble):
    """There is no deed to take back."""


class TooMany(Trouble):
    """There is more than the limit allows."""

    def __init__(self, limit):
        self.limit = limit


class BadText(Trouble):
    """A text describes nothing of the kind asked for."""

    def __init__(self, line, word):
        self.line = line
        self.word = word
