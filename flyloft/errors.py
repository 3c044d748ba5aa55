"""The refusals: each has a class of its own, and all stand under LoftError alone."""


class LoftError(ValueError):
    pass


class NoRig(LoftError):

    # row is None where no single line is at fault: no plate or no bar is told.
    def __init__(self, row):
        self.row = row


class NoName(LoftError):

    def __init__(self, name):
        self.name = name


class Unbalanced(LoftError):

    def __init__(self, bar, why, lacks):
        self.bar = bar
        self.why = why
        self.lacks = lacks


class TooHeavy(LoftError):

    # what is None where it is the plate that is too heavy, not a piece.
    def __init__(self, bar, what):
        self.bar = bar
        self.what = what


class Unheld(LoftError):

    def __init__(self, bar, over):
        self.bar = bar
        self.over = over


class Misdeed(LoftError):

    def __init__(self, number, why):
        self.number = number
        self.why = why


class Out(LoftError):

    def __init__(self, bar):
        self.bar = bar


class Meets(LoftError):

    def __init__(self, low, high):
        self.low = low
        self.high = high


class TooFar(LoftError):

    def __init__(self, bar, lacks):
        self.bar = bar
        self.lacks = lacks


class TooFew(LoftError):

    def __init__(self, lacks):
        self.lacks = lacks


class Braked(LoftError):

    def __init__(self, bar):
        self.bar = bar


class Loose(LoftError):

    def __init__(self, bar):
        self.bar = bar


class Leaning(LoftError):

    def __init__(self, bar, over):
        self.bar = bar
        self.over = over


class Taken(LoftError):

    def __init__(self, piece, bar):
        self.piece = piece
        self.bar = bar


class NotThere(LoftError):

    def __init__(self, bar, piece):
        self.bar = bar
        self.piece = piece


class NoRoom(LoftError):

    def __init__(self, bar):
        self.bar = bar


class NoPlate(LoftError):

    def __init__(self, bar):
        self.bar = bar


class NoCue(LoftError):

    def __init__(self, row):
        self.row = row


class NoMore(LoftError):
    pass


class NoRow(LoftError):
    pass


class NoLoft(LoftError):
    pass
