"""The errors of the package: each keeps what it is made with."""


class WrongValue(ValueError):
    """A value that was passed is none that may stand there."""

    def __init__(self):
        ValueError.__init__(self)


class InvalidText(WrongValue):
    """What was passed is not the text of a net."""

    def __init__(self, given):
        self.given = given


class InvalidName(WrongValue):
    """What was passed is not a name."""

    def __init__(self, given):
        self.given = given


class InvalidNumber(WrongValue):
    """What was passed is not an integer within its limits."""

    def __init__(self, given):
        self.given = given


class InvalidPlace(WrongValue):
    """What was passed is not a place that may stand here."""

    def __init__(self, given):
        self.given = given


class InvalidHue(WrongValue):
    """What was passed is not a hue."""

    def __init__(self, given):
        self.given = given


class InvalidHues(WrongValue):
    """What was passed is not a string of hues that may stand here."""

    def __init__(self, given):
        self.given = given


class InvalidWish(WrongValue):
    """What was passed is not a wish."""

    def __init__(self, given):
        self.given = given


class InvalidIndex(WrongValue):
    """What was passed is not the index of a wish."""

    def __init__(self, given):
        self.given = given


class InvalidLine(WrongValue):
    """What was passed is not a line that a console understands."""

    def __init__(self, given):
        self.given = given


class NotANet(WrongValue):
    """What was passed is not a net."""

    def __init__(self, given):
        self.given = given


class InvalidRoads(WrongValue):
    """What was passed is not a tuple of the roads of a net."""

    def __init__(self, index):
        self.index = index


class InvalidPlaces(WrongValue):
    """What was passed is not a tuple of places that may stand here."""

    def __init__(self, index):
        self.index = index


class InvalidPairs(WrongValue):
    """What was passed is not a tuple of pairs that may stand here."""

    def __init__(self, index):
        self.index = index


class InvalidDeeds(WrongValue):
    """What was passed is not deeds alone."""

    def __init__(self, index):
        self.index = index


class WrongName(LookupError):
    """Nothing stands under what was passed."""

    def __init__(self):
        LookupError.__init__(self)


class UnknownName(WrongName):
    """What was passed is not a name of the book."""

    def __init__(self, given):
        self.given = given


class NoAnswer(ArithmeticError):
    """All values are right, but there is no answer."""

    def __init__(self):
        ArithmeticError.__init__(self)


class NoRoad(NoAnswer):
    """There is no road between both places."""

    def __init__(self):
        NoAnswer.__init__(self)


class TooGreat(NoAnswer):
    """A number is above the limit of what is asked."""

    def __init__(self, given):
        self.given = given


class Broken(NoAnswer):
    """A wish would not hold."""

    def __init__(self, index):
        self.index = index


class InUse(NoAnswer):
    """A wish names what is to be taken away."""

    def __init__(self, index):
        self.index = index


class NothingToUndo(NoAnswer):
    """No change is left that could be taken back."""

    def __init__(self):
        NoAnswer.__init__(self)
