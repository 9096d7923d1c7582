"""The refusals: a class for each, all of them under FallError and none under another one."""


class FallError(ValueError):
    pass


class NoWeb(FallError):
    pass


class NoPlace(FallError):
    pass


class NoTie(FallError):
    pass


class NoSet(FallError):
    pass


class NoOffers(FallError):
    pass


class TooMany(FallError):
    pass


class NoBack(FallError):
    pass


class NoOrder(FallError):
    pass


class NoText(FallError):
    def __init__(self, line):
        FallError.__init__(self, f"line {line} is not of the form that a web is written in")
        self.line = line


class NoRow(FallError):
    pass
