"""Cars given to blocks, or a paper that there are too few of them."""

from fleetpath.blocks import block_length
from fleetpath.checks import check_most, checked_new_name, checked_number
from fleetpath.errors import FleetError
from fleetpath.pairs import MOST_LEFTS, lacking, matching
from fleetpath.trips import SEATS

MOST_CARS = 40


class TooFew(FleetError):
    def __init__(self, lefts, rights):
        self.lefts = lefts
        self.rights = rights


def rights_of(rows, lefts):
    had = {}
    for left in lefts:
        for right in rows[left]:
            had[right] = True
    return list(had)


def dealt(rows):
    lefts = lacking(rows)
    if len(lefts) > 0:
        raise TooFew(lefts, rights_of(rows, lefts))
    return matching(rows)


# Of lists of names, one for each thing in order, one name for each thing.
def dealt_in_order(lists):
    given = dealt(dict(enumerate(lists)))
    return [given[number] for number in range(len(lists))]


def check_cars(cars):
    check_most(cars, MOST_CARS)
    had = {}
    for name, seats, reach in cars:
        checked_new_name(name, had)
        checked_number(seats, 0)
        checked_number(reach, 0)
        had[name] = True


def seats_wanted(table, names):
    return max([table.trip(name)[SEATS] for name in names], default=0)


def fit_for(table, home, names, cars):
    length = block_length(table, home, names)
    wanted = seats_wanted(table, names)
    return [name for name, seats, reach in cars if seats >= wanted and reach >= length]


def fit_cars(table, home, blocks, cars):
    check_cars(cars)
    check_most(blocks, MOST_LEFTS)
    return [fit_for(table, home, names, cars) for names in blocks]


def give_cars(table, home, blocks, cars):
    return dealt_in_order(fit_cars(table, home, blocks, cars))
