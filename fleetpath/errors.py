"""The refusals that several files share, and the bound of all counts."""

LIMIT = 1000000000


class FleetError(ValueError):
    pass


class BadName(FleetError):
    def __init__(self, name):
        self.name = name


class BadNumber(FleetError):
    def __init__(self, value):
        self.value = value


class BadTime(FleetError):
    def __init__(self, text):
        self.text = text


class TooMany(FleetError):
    def __init__(self, most):
        self.most = most


class Twice(FleetError):
    def __init__(self, name):
        self.name = name


class NoPlace(FleetError):
    def __init__(self, name):
        self.name = name


class NoWay(FleetError):
    def __init__(self, origin, goal):
        self.origin = origin
        self.goal = goal


class NoTrip(FleetError):
    def __init__(self, name):
        self.name = name
