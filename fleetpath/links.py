"""Which trips one car can drive behind one another."""

from fleetpath.trips import FINISH, GOAL, ORIGIN, START


def gap(table, one, other):
    ahead = table.trip(one)
    behind = table.trip(other)
    length = table.roads.length(ahead[GOAL], behind[ORIGIN])
    if length is None:
        return None
    return behind[START] - ahead[FINISH] - length


def linked(table, one, other):
    minutes = gap(table, one, other)
    return minutes is not None and minutes >= 0


def links(table):
    names = table.names()
    return dict([(one, linked_behind(table, one, names)) for one in names])


def linked_behind(table, one, names):
    return [other for other in names if linked(table, one, other)]
