"""The refusals of the program, one class for each."""


class PageError(ValueError):
    pass


class NoPage(PageError):
    pass


class BadName(PageError):
    pass


class Taken(PageError):
    pass


class Inside(PageError):
    pass


class TooDeep(PageError):
    pass


class NothingBack(PageError):
    pass


class Ring(PageError):
    pass


class TooMany(PageError):
    pass


class NoText(PageError):
    pass
