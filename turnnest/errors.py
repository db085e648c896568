"""The refusals: each has a class of its own, straight under TurnError."""


class TurnError(ValueError):
    pass


class NoOrder(TurnError):
    pass


class NoWords(TurnError):
    pass


class NoNest(TurnError):
    pass


class NoTurn(TurnError):
    pass


class NoNumber(TurnError):
    pass


class TooMany(TurnError):
    pass


class NoText(TurnError):
    pass


class NoRow(TurnError):
    pass
