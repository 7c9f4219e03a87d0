"""Places, the ways between them, and the shortest of these."""

from fleetpath.checks import check_most, checked_new_name, checked_number
from fleetpath.errors import NoPlace

MOST_PLACES = 12
MOST_WAYS = 60


def check_place(name, places):
    if name not in places:
        raise NoPlace(name)


def check_places(places):
    had = {}
    for name in places:
        checked_new_name(name, had)
        had[name] = True


def check_ways(places, ways):
    for origin, goal, minutes in ways:
        check_place(origin, places)
        check_place(goal, places)
        checked_number(minutes, 1)


# The rounds end only when no way undercuts a height: that is what makes the heights a paper.
def heights_from(origin, ways):
    heights = {origin: 0}
    changed = True
    while changed:
        changed = False
        for start, goal, minutes in ways:
            if start in heights:
                height = heights[start] + minutes
                if goal not in heights or height < heights[goal]:
                    heights[goal] = height
                    changed = True
    return heights


# Every height but the origin's own comes from a way that just reaches it, so there always is one.
def place_ahead(place, heights, ways):
    for start, goal, minutes in ways:
        if goal == place and start in heights and heights[start] + minutes == heights[place]:
            return start


class Roads:
    def __init__(self, places, ways):
        check_most(places, MOST_PLACES)
        check_most(ways, MOST_WAYS)
        check_places(places)
        check_ways(places, ways)
        self.places = list(places)
        self.ways = list(ways)
        self.lengths = dict([(place, heights_from(place, ways)) for place in places])

    def names(self):
        return list(self.places)

    def length(self, origin, goal):
        check_place(origin, self.places)
        check_place(goal, self.places)
        return self.lengths[origin].get(goal)

    # Each way takes a minute at least, so going back from the goal the heights fall until the origin.
    def way(self, origin, goal):
        if self.length(origin, goal) is None:
            return None
        passed = [goal]
        while passed[-1] != origin:
            passed.append(place_ahead(passed[-1], self.lengths[origin], self.ways))
        return list(reversed(passed))

    def heights(self, origin):
        check_place(origin, self.places)
        return dict(self.lengths[origin])
