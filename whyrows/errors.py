"""The refusals: one class each, all under WhyError."""


class WhyError(ValueError):
    pass


class NoName(WhyError):
    pass


class NoFact(WhyError):
    pass


class NoRule(WhyError):
    pass


class NoRounds(WhyError):
    pass


class NoWorth(WhyError):
    pass


class NoText(WhyError):
    pass


class TooMuch(WhyError):
    pass
