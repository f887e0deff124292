"""The refusals: one class for each, straight under CatchError."""


class CatchError(ValueError):
    pass


class NoFraction(CatchError):
    pass


class BadLine(CatchError):
    pass


class Outside(CatchError):
    pass


class Unlike(CatchError):
    pass


class BadWay(CatchError):
    pass


class BadWeights(CatchError):
    pass


class BadClaim(CatchError):
    pass


class TooMany(CatchError):
    pass


class NoBoat(CatchError):
    pass


class BadCatch(CatchError):
    pass


class NoText(CatchError):
    pass
