"""The refusals: one class for each, all straight under WayError."""


class WayError(ValueError):
    pass


class NoNet(WayError):
    pass


class NoBooks(WayError):
    pass


class NoDoor(WayError):
    pass


class NoAddress(WayError):
    pass


class NoSaying(WayError):
    pass


class NoRow(WayError):
    pass


class NoPlan(WayError):
    pass


class NoMove(WayError):
    pass


class NoText(WayError):
    pass
