"""The refusals: one base, and straight under it a class for each."""


class WayError(ValueError):
    pass


class NoLabels(WayError):
    def __init__(self, word, at):
        self.word = word
        self.at = at


class NoLeast(WayError):
    def __init__(self, word, at):
        self.word = word
        self.at = at


class NoPlan(WayError):
    def __init__(self, word, at):
        self.word = word
        self.at = at


class NoText(WayError):
    def __init__(self, line, word):
        self.line = line
        self.word = word


class NoOrder(WayError):
    pass


class NoTree(WayError):
    pass


class NoRing(WayError):
    pass


class NoPosts(WayError):
    pass


class NoTie(WayError):
    pass


class NoPart(WayError):
    pass


class NoRow(WayError):
    pass


class TooMany(WayError):
    pass
