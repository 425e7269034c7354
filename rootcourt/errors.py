"""The refusals of the house: one class for each, all straight under CourtError."""


class CourtError(ValueError):
    pass


class NoPart(CourtError):
    pass


class NoFree(CourtError):
    pass


class NoInverse(CourtError):
    pass


class TooGreat(CourtError):
    pass


class NoShape(CourtError):
    pass


class NoText(CourtError):
    pass


class NoLine(CourtError):
    pass


class NoName(CourtError):

    def __init__(self, name):
        CourtError.__init__(self, "the names are x, y and z alone")
        self.name = name
