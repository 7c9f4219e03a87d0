"""How a driver's minutes go, and the rules that these are held to."""

from fleetpath.blocks import check_block
from fleetpath.trips import FINISH, GOAL, ORIGIN, START

WAY = "way"
TRIP = "trip"
WAIT = "wait"

# Where a part of a sheet has its minutes.
BEGIN = 1
END = 2


# The first way is told from its end, the first trip's start, so that nothing is waited for there.
def parts_of(table, home, names):
    minute = table.trip(names[0])[START] - table.roads.length(home, table.trip(names[0])[ORIGIN])
    place = home
    parts = []
    for name in names:
        trip = table.trip(name)
        arrival = minute + table.roads.length(place, trip[ORIGIN])
        parts.append((WAY, minute, arrival))
        parts.append((WAIT, arrival, trip[START]))
        parts.append((TRIP, trip[START], trip[FINISH]))
        minute = trip[FINISH]
        place = trip[GOAL]
    parts.append((WAY, minute, minute + table.roads.length(place, home)))
    return parts


def sheet(table, home, names):
    check_block(table, home, names)
    if len(names) == 0:
        return []
    return [part for part in parts_of(table, home, names) if part[BEGIN] < part[END]]


class Rule:
    def fits(self, rows):
        return True

    def word(self):
        return "rule"


# The numbers that rules are made of may lie below 0, where only the sheet without parts is let by.
class Span(Rule):
    def __init__(self, most):
        self.most = most

    def fits(self, rows):
        return len(rows) == 0 or rows[-1][END] - rows[0][BEGIN] <= self.most

    def word(self):
        return "span"


class Work(Rule):
    def __init__(self, most):
        self.most = most

    def fits(self, rows):
        worked = sum([end - begin for kind, begin, end in rows if kind != WAIT])
        return len(rows) == 0 or worked <= self.most

    def word(self):
        return "work"


class Pause(Rule):
    def __init__(self, most, least):
        self.most = most
        self.least = least

    def fits(self, rows):
        driven = 0
        for kind, begin, end in rows:
            if kind == WAIT and end - begin >= self.least:
                driven = 0
            if kind == TRIP:
                driven += end - begin
                if driven > self.most:
                    return False
        return True

    def word(self):
        return "pause"


class Shift(Rule):
    def __init__(self, first, last):
        self.first = first
        self.last = last

    def fits(self, rows):
        return len(rows) == 0 or self.first <= rows[0][BEGIN] and rows[-1][END] <= self.last

    def word(self):
        return "shift"


class AllOf(Rule):
    def __init__(self, rules):
        self.rules = list(rules)

    def fits(self, rows):
        return all([rule.fits(rows) for rule in self.rules])

    def word(self):
        return "all"


def broken(rules, rows):
    return [rule.word() for rule in rules if not rule.fits(rows)]
