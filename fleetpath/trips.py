"""Trips between places, and the table that keeps them in order."""

from fleetpath.checks import check_most, checked_new_name, checked_number
from fleetpath.errors import FleetError, NoTrip, NoWay

MOST_TRIPS = 40

# Where a trip's tuple has what.
NAME = 0
ORIGIN = 1
GOAL = 2
START = 3
FINISH = 4
SEATS = 5


class Backward(FleetError):
    def __init__(self, name):
        self.name = name


class TooFast(FleetError):
    def __init__(self, name):
        self.name = name


# Asking for the length refuses places that are none, which is due ahead of the numbers.
def check_trip(roads, trip, had):
    checked_new_name(trip[NAME], had)
    length = roads.length(trip[ORIGIN], trip[GOAL])
    checked_number(trip[START], 0)
    checked_number(trip[FINISH], 0)
    checked_number(trip[SEATS], 0)
    if trip[FINISH] <= trip[START]:
        raise Backward(trip[NAME])
    if length is None:
        raise NoWay(trip[ORIGIN], trip[GOAL])
    if trip[FINISH] - trip[START] < length:
        raise TooFast(trip[NAME])


def place_in_order(trip):
    return (trip[START], trip[FINISH], trip[NAME])


class Table:
    def __init__(self, roads, trips):
        check_most(trips, MOST_TRIPS)
        self.roads = roads
        self.by_name = {}
        for trip in trips:
            check_trip(roads, trip, self.by_name)
            self.by_name[trip[NAME]] = trip
        self.order = [trip[NAME] for trip in sorted(trips, key=place_in_order)]

    def names(self):
        return list(self.order)

    def trip(self, name):
        if name not in self.by_name:
            raise NoTrip(name)
        return self.by_name[name]


def check_trips(table, names):
    for name in names:
        table.trip(name)
