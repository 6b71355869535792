"""The refusals, one class for each."""


class FloorError(ValueError):
    pass


class NoFrame(FloorError):
    pass


class NoScale(FloorError):
    pass


class NoShape(FloorError):
    pass


class NoCut(FloorError):
    pass


class NoKind(FloorError):
    pass


class NoAddress(FloorError):
    pass


class NoShares(FloorError):
    pass


class NoText(FloorError):
    pass


class NoRow(FloorError):
    pass


class TooMany(FloorError):
    pass


class NoFill(FloorError):
    def __init__(self, lack):
        self.lack = lack
