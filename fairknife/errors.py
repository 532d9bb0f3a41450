"""The refusals, one class each."""


class CakeError(ValueError):
    pass


class BadFraction(CakeError):
    pass


class BadTaste(CakeError):
    pass


class BadPiece(CakeError):
    pass


class BadTakers(CakeError):
    pass


class TooLittle(CakeError):
    pass


class BadText(CakeError):
    pass
