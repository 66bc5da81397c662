"""The refusals of the program, a class each."""


class ShoreError(ValueError):
    pass


class BadBoard(ShoreError):
    pass


class NoCell(ShoreError):
    pass


class NotFull(ShoreError):
    pass


class Taken(ShoreError):
    pass


class Over(ShoreError):
    pass


class NoStone(ShoreError):
    pass


class TooMany(ShoreError):
    pass
