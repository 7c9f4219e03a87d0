"""Drivers, the duties that they may have, and drivers given to duties."""

from fleetpath.blocks import Unlinked, check_linked
from fleetpath.checks import check_most, checked_new_name, checked_number
from fleetpath.errors import LIMIT, NoWay
from fleetpath.giving import dealt_in_order
from fleetpath.hours import Shift, sheet
from fleetpath.pairs import MOST_LEFTS
from fleetpath.roads import check_place

MOST_DRIVERS = 40

# Where a driver's tuple has what.
NAME = 0
HOME = 1
ENDED = 2
REST = 3
LAST = 4


def check_drivers(drivers):
    check_most(drivers, MOST_DRIVERS)
    had = {}
    for name, home, ended, rest, last in drivers:
        checked_new_name(name, had)
        checked_number(ended, -LIMIT)
        checked_number(rest, 0)
        checked_number(last, 0)
        had[name] = True


# From behind the rest until the minute at home is a shift, which the sheet without parts fits like every rule.
def driver_fits(table, rule, driver, names):
    try:
        parts = sheet(table, driver[HOME], names)
    except NoWay:
        return False
    except Unlinked:
        return False
    return rule.fits(parts) and Shift(driver[ENDED] + driver[REST], driver[LAST]).fits(parts)


def check_homes(table, drivers):
    for driver in drivers:
        check_place(driver[HOME], table.roads.names())


def names_fit(table, rule, names, drivers):
    return [driver[NAME] for driver in drivers if driver_fits(table, rule, driver, names)]


def fit_drivers(table, rule, duties, drivers):
    check_drivers(drivers)
    check_homes(table, drivers)
    check_most(duties, MOST_LEFTS)
    for names in duties:
        check_linked(table, names)
    return [names_fit(table, rule, names, drivers) for names in duties]


def give_drivers(table, rule, duties, drivers):
    return dealt_in_order(fit_drivers(table, rule, duties, drivers))
