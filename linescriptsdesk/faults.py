"""The fault of a script, and the refusals of calls."""


class Fault(Exception):
    def __init__(self, code, place):
        self.code = code
        self.place = place


class NoScript(Exception):
    pass


class NotAText(Exception):
    pass


class TooMuch(Exception):
    pass


class NoSuchLine(Exception):
    pass


class NotSoOften(Exception):
    pass
