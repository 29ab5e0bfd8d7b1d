"""The refusals: each one stands straight under DrawError."""


class DrawError(ValueError):
    pass


class NoName(DrawError):
    pass


class Taken(DrawError):
    pass


class Alone(DrawError):
    pass


class NoNumber(DrawError):
    pass


class TooMany(DrawError):
    pass


class NoFlow(DrawError):
    pass


class TooLong(DrawError):
    pass


class Stale(DrawError):
    pass


class NoPoint(DrawError):
    def __init__(self, name):
        self.name = name


class NoSuch(DrawError):
    def __init__(self, number):
        self.number = number


class NoLine(DrawError):
    def __init__(self, number):
        self.number = number


class Ring(DrawError):
    def __init__(self, ring):
        # A copy, so that the maker's list and the told one stay apart.
        self.ring = list(ring)
