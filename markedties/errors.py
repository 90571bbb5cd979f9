"""The refusals of the program, one class for each."""


class TieError(ValueError):
    pass


class BadTree(TieError):
    pass


class BadMarks(TieError):
    pass


class NotGood(TieError):
    pass


class NoBound(TieError):
    pass


class NoComb(TieError):
    pass
