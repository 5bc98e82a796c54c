"""The refusals of the package, each an error class of its own."""


class QuayError(ValueError):
    pass


class BadTable(QuayError):
    def __init__(self, part, at, why):
        self.part = part
        self.at = at
        self.why = why


class BadLine(QuayError):
    def __init__(self, row, why):
        self.row = row
        self.why = why


class NoPlace(QuayError):
    def __init__(self, name):
        self.name = name


class NoRide(QuayError):
    def __init__(self, name):
        self.name = name


class NoWay(QuayError):
    def __init__(self, name):
        self.name = name


class NoGroup(QuayError):
    def __init__(self, name):
        self.name = name


class NoHomes(QuayError):
    def __init__(self, found):
        self.found = found


class NoTurn(QuayError):
    def __init__(self, found):
        self.found = found


class NoStep(QuayError):
    def __init__(self, found):
        self.found = found


class NoSpot(QuayError):
    def __init__(self, found):
        self.found = found


class NoPlan(QuayError):
    def __init__(self, found):
        self.found = found


class NoJourney(QuayError):
    def __init__(self, at):
        self.at = at


class NoOrder(QuayError):
    def __init__(self, at):
        self.at = at


class NoSeat(QuayError):
    def __init__(self, name):
        self.name = name


class Gone(QuayError):
    def __init__(self, name):
        self.name = name


class NoTable(QuayError):
    pass


class NoRow(QuayError):
    def __init__(self, found):
        self.found = found
