"""The refusals of the program, each a class of its own under ToneError."""


class ToneError(ValueError):
    pass


class NoHalf(ToneError):
    pass


class NoLeading(ToneError):
    pass


class NoText(ToneError):
    pass


class NoRow(ToneError):
    pass


class Unknown(ToneError):
    pass
