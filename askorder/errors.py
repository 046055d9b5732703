"""The refusals: each a class of its own straight under AskError."""


class AskError(ValueError):
    pass


class BadBallot(AskError):
    pass


class Even(AskError):
    pass


class BadOrder(AskError):
    pass


class BadTree(AskError):
    pass


class NotTop(AskError):
    pass


class BadParts(AskError):
    pass


class NotAlike(AskError):
    pass


class BadRow(AskError):
    pass


class BadNumber(AskError):
    pass


class Twice(AskError):
    pass


class Unknown(AskError):
    pass


class TooMany(AskError):
    pass


class NothingLeft(AskError):
    pass
