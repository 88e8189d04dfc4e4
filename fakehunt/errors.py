"""The refusals: one class each, with what it is about as a field."""


class HuntError(ValueError):
    pass


class TextError(HuntError):
    def __init__(self, line):
        self.line = line


class NoLine(TextError):
    pass


class Twice(TextError):
    pass


class NoName(TextError):
    pass


class NoPlace(TextError):
    pass


class TooWide(HuntError):
    def __init__(self, width):
        self.width = width


class TooMany(HuntError):
    def __init__(self, number):
        self.number = number
