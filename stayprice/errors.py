"""The refusals: one class for each, all straight under StayError."""


class StayError(ValueError):
    pass


class NoRule(StayError):
    def __init__(self, number):
        StayError.__init__(self, f"the thing at place {number} is no rule")
        self.number = number


class NoText(StayError):
    def __init__(self, line):
        StayError.__init__(self, f"line {line} is no rule's")
        self.line = line


class NotSold(StayError):
    def __init__(self, night):
        StayError.__init__(self, f"night {night} is not sold")
        self.night = night


# The lists are kept as copies: who hands one in may change it later.
class Barred(StayError):
    def __init__(self, bars):
        StayError.__init__(self, "the stay has bars")
        self.bars = list(bars)


class Off(StayError):
    def __init__(self, days):
        StayError.__init__(self, "no part leads out of the days")
        self.days = list(days)


class TooMany(StayError):
    pass


class Had(StayError):
    pass


class NoName(StayError):
    pass


class NoTaken(StayError):
    pass


class NoDeed(StayError):
    pass


class NoRow(StayError):
    pass


class NoStay(StayError):
    pass
