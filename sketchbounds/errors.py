"""The refusals: one class each, all of them under KeepError."""


class KeepError(ValueError):
    pass


class Unlike(KeepError):
    pass


class TooFine(KeepError):
    pass


class OutOfReach(KeepError):
    pass


class TooManyOff(KeepError):
    pass


class BadText(KeepError):
    # The words are set here, so that the line's number stays out of them.
    def __init__(self, line):
        KeepError.__init__(self, "a line of the text is at fault")
        self.line = line
