"""The refusals. Their words are fixed: what was handed in may not be fit to be shown."""


class YardError(ValueError):
    pass


class NoGround(YardError):
    pass


class NoLoad(YardError):
    pass


class NoYard(YardError):
    pass


class NoCounts(YardError):
    pass


class NoTree(YardError):
    pass


class NoText(YardError):
    pass
