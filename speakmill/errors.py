"""The refusals, one class for each of them."""


class MillError(ValueError):
    pass


class BadText(MillError):
    pass


class BadName(MillError):
    pass


class BadKind(MillError):
    pass


class BadInput(MillError):
    pass
