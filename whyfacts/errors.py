"""The refusals, one class for each, all under FactError."""


class FactError(ValueError):
    pass


class BadFact(FactError):
    pass


class BadRule(FactError):
    pass


class BadWidth(FactError):
    pass


class Unbound(FactError):
    pass


class Ringed(FactError):
    pass


class TooMany(FactError):
    pass


class NoFact(FactError):
    pass


class NoText(FactError):
    pass
