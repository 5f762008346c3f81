"""The refusals."""


class RowError(ValueError):
    pass


class NoRow(RowError):
    pass


class NoPlace(RowError):
    pass


class NoSuch(RowError):
    pass


class BadText(RowError):
    pass
