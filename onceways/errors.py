"""The refusals. Each one stands straight under WayError, so that none is taken for another."""


class WayError(ValueError):
    pass


class NoWeb(WayError):
    pass


class NoPlace(WayError):
    pass


class NoEnds(WayError):
    pass


class NoWay(WayError):
    pass


class NoOrder(WayError):
    pass


class NoStep(WayError):
    pass


class NoWall(WayError):
    pass


class TooMany(WayError):
    pass


class NoNumber(WayError):
    pass


class NoTable(WayError):
    pass


class NoText(WayError):
    pass


class NoName(WayError):
    pass


class NoRow(WayError):
    pass
