"""Judges, who tell whether a key may drive a row of trips, and where it stands ahead of all trips."""

from fleetpath.blocks import Unlinked, block_length, check_linked
from fleetpath.drivers import HOME, NAME, check_drivers, driver_fits
from fleetpath.errors import FleetError, NoWay
from fleetpath.giving import check_cars, seats_wanted


class NoKey(FleetError):
    def __init__(self, name):
        self.name = name


def check_key(key, known):
    if key not in known:
        raise NoKey(key)


class Judge:
    def stands(self, table, key, names):
        try:
            check_linked(table, names)
        except Unlinked:
            return False
        return True

    def place_of(self, key):
        return None


class CarJudge(Judge):
    def __init__(self, home, cars):
        check_cars(cars)
        self.home = home
        self.seats = dict([(name, seats) for name, seats, reach in cars])
        self.reaches = dict([(name, reach) for name, seats, reach in cars])

    def stands(self, table, key, names):
        check_key(key, self.seats)
        try:
            length = block_length(table, self.home, names)
        except Unlinked:
            return False
        except NoWay:
            return False
        return length <= self.reaches[key] and seats_wanted(table, names) <= self.seats[key]

    def place_of(self, key):
        check_key(key, self.seats)
        return self.home


class DriverJudge(Judge):
    def __init__(self, rule, drivers):
        check_drivers(drivers)
        self.rule = rule
        self.drivers = dict([(driver[NAME], driver) for driver in drivers])

    def stands(self, table, key, names):
        check_key(key, self.drivers)
        return driver_fits(table, self.rule, self.drivers[key], names)

    def place_of(self, key):
        check_key(key, self.drivers)
        return self.drivers[key][HOME]
