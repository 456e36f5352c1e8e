"""The refusals. Each stands straight under YardError, so that taking one never takes another."""


class YardError(ValueError):
    pass


class BadYard(YardError):
    pass


class BadPosition(YardError):
    pass


class NoMove(YardError):
    pass


class Ended(YardError):
    pass


class BadSide(YardError):
    pass


class BadPaper(YardError):
    pass


class TooMany(YardError):
    pass


class NoWin(YardError):
    pass


class NoProblem(YardError):
    pass


class BadText(YardError):
    pass


class Nothing(YardError):
    pass


class NoKin(YardError):
    pass
