"""The refusals: each one a class of its own, right under CasterError."""


class CasterError(ValueError):
    pass


class NoCase(CasterError):
    def __init__(self, at):
        CasterError.__init__(self, f"the tuple with the number {at} can't stand there")
        self.at = at


class TooMany(CasterError):
    pass


class Loose(CasterError):
    def __init__(self, by):
        CasterError.__init__(self, f"the line is too loose by {by}")
        self.by = by


class Tight(CasterError):
    def __init__(self, by):
        CasterError.__init__(self, f"the line is too tight by {by}")
        self.by = by


class NoBreak(CasterError):
    def __init__(self, words):
        CasterError.__init__(self, f"of the words only the first {words} can be broken into full lines")
        self.words = words


class NoCopy(CasterError):
    pass


class NoKeys(CasterError):
    def __init__(self, at):
        CasterError.__init__(self, f"the keys are not good at the number {at}")
        self.at = at


class NoText(CasterError):
    pass


class NoNumber(CasterError):
    pass


class NoRow(CasterError):
    pass
