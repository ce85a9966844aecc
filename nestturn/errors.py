"""The refusals of the program: each one straight under TurnError."""


class TurnError(ValueError):
    pass


class NoProgram(TurnError):
    pass


class TooMany(TurnError):
    pass


class NoOrder(TurnError):
    pass


class NoPlan(TurnError):
    pass


class Tied(TurnError):
    def __init__(self, pair):
        self.pair = pair


class NoTurn(TurnError):
    pass


class NoText(TurnError):
    pass


class NoRow(TurnError):
    pass
