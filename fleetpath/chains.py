"""The fewest chains of an order, and as many names apart."""

from fleetpath.errors import FleetError, NoTrip
from fleetpath.pairs import check_rows, cover, matching


class Ring(FleetError):
    def __init__(self, name):
        self.name = name


class NotOrdered(FleetError):
    def __init__(self, first, second, third):
        self.first = first
        self.second = second
        self.third = third


def check_known(order):
    for name in order:
        for other in order[name]:
            if other not in order:
                raise NoTrip(other)


def check_rings(order):
    for name in order:
        if name in order[name]:
            raise Ring(name)


def check_going_on(order, first):
    behind = dict([(name, True) for name in order[first]])
    for second in order[first]:
        for third in order[second]:
            if third not in behind:
                raise NotOrdered(first, second, third)


def check_order(order):
    check_rows(order)
    check_known(order)
    check_rings(order)
    for first in order:
        check_going_on(order, first)


def chain_from(name, given):
    chain = [name]
    while chain[-1] in given:
        chain.append(given[chain[-1]])
    return chain


# Each name that is given to another one goes straight behind it: the more are given, the fewer begin a chain.
def chains(order):
    check_order(order)
    given = matching(order)
    followers = dict([(given[name], True) for name in given])
    return [chain_from(name, given) for name in order if name not in followers]


# Of two names, one behind the other, a cover has one on its side: names on neither side are apart. A cover
# has as many things as names are given, so at least as many names are on neither side as there are chains.
def apart(order):
    check_order(order)
    covered = cover(order)
    return [name for name in order if name not in covered[0] and name not in covered[1]]
