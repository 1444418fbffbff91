"""The refusals, a class for each."""


class CoinError(ValueError):
    pass


class BadMarks(CoinError):
    pass


class BadWeighing(CoinError):
    pass


class BadOutcome(CoinError):
    pass


class Never(CoinError):
    pass


class BadCoin(CoinError):
    pass


class BadText(CoinError):
    pass
