"""The nights of a week in which cars are cared for."""

from fleetpath.checks import check_most, checked_new_name, checked_number
from fleetpath.errors import FleetError

MOST_WEEKS = 40
DAYS = 7


class NoNight(FleetError):
    def __init__(self, name):
        self.name = name


class Crowded(FleetError):
    def __init__(self, first, last, cars):
        self.first = first
        self.last = last
        self.cars = cars


def check_weeks(weeks):
    check_most(weeks, MOST_WEEKS)
    had = {}
    for name, metre, due, loads in weeks:
        checked_new_name(name, had)
        checked_number(metre, 0)
        checked_number(due, 1)
        for load in loads:
            checked_number(load, 0)
        had[name] = True


def can_be_cared_for(metre, due, loads, night):
    ahead = metre + sum(loads[:night + 1])
    behind = sum(loads[night + 1:])
    return ahead <= due and behind <= due


def nights(metre, due, loads):
    return [night for night in range(DAYS) if can_be_cared_for(metre, due, loads, night)]


# The care of a night lies behind that day, so the day itself still counts to the metre.
def metre_at(metre, loads, night, day):
    if night is None or day <= night:
        return metre + sum(loads[:day + 1])
    return sum(loads[night + 1:day + 1])


def metres(metre, loads, night):
    return [metre_at(metre, loads, night, day) for day in range(DAYS)]


def needs_care(metre, due, loads):
    return metre + sum(loads) > due


def nights_of_needy(weeks):
    chosen = {}
    for name, metre, due, loads in weeks:
        if needs_care(metre, due, loads):
            chosen[name] = nights(metre, due, loads)
    return chosen


def check_served(chosen):
    for name in chosen:
        if len(chosen[name]) == 0:
            raise NoNight(name)


def cars_within(chosen, first, last):
    return [name for name in chosen if first <= chosen[name][0] and chosen[name][-1] <= last]


def check_crowds(chosen, bays):
    for first in range(DAYS):
        for last in range(first, DAYS):
            cars = cars_within(chosen, first, last)
            if len(cars) > bays * (last - first + 1):
                raise Crowded(first, last, cars)


# Night by night those go first who can wait least. A car's nights have no hole between them, so where no run of
# nights is crowded all come in.
def served(chosen, bays):
    told = {}
    for night in range(DAYS):
        waiting = [name for name in chosen if name not in told and night in chosen[name]]
        for name in sorted(waiting, key=lambda car: chosen[car][-1])[:bays]:
            told[name] = night
    return told


def care(weeks, bays):
    check_weeks(weeks)
    checked_number(bays, 0)
    chosen = nights_of_needy(weeks)
    check_served(chosen)
    check_crowds(chosen, bays)
    told = served(chosen, bays)
    return dict([(name, told.get(name)) for name, metre, due, loads in weeks])
