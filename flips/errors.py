"""The refusals: a base, and straight under it one class for each refusal."""


class FlipError(ValueError):
    pass


class NoText(FlipError):
    def __init__(self, at):
        self.at = at


class Alike(FlipError):
    def __init__(self, one, other):
        self.one = one
        self.other = other


class NoEnd(FlipError):
    def __init__(self, one, other):
        self.one = one
        self.other = other


class NoThing(FlipError):
    def __init__(self, question):
        self.question = question


class NoRow(FlipError):
    def __init__(self, row):
        self.row = row


class NoName(FlipError):
    def __init__(self, name):
        self.name = name


class NoTable(FlipError):
    pass
