"""Rows of trips as the blocks that cars drive from a home: their lengths, their pieces and their legs."""

from fleetpath.checks import check_once
from fleetpath.errors import FleetError, NoWay
from fleetpath.links import linked
from fleetpath.roads import check_place
from fleetpath.trips import FINISH, GOAL, NAME, ORIGIN, SEATS, START, check_trips


class Unlinked(FleetError):
    def __init__(self, first, second):
        self.first = first
        self.second = second


class TooLong(FleetError):
    def __init__(self, name):
        self.name = name


# All names are asked for ahead of all links, so a stranger at the end is told ahead of neighbours not linked.
def check_linked(table, names):
    check_trips(table, names)
    for one, other in zip(names, names[1:]):
        if not linked(table, one, other):
            raise Unlinked(one, other)


def check_row(table, home, names):
    check_place(home, table.roads.names())
    check_linked(table, names)


def check_way(roads, origin, goal):
    if roads.length(origin, goal) is None:
        raise NoWay(origin, goal)


# What a block refuses. Between its trips there always are ways, as they are linked.
def check_block(table, home, names):
    check_row(table, home, names)
    if len(names) > 0:
        check_way(table.roads, home, table.trip(names[0])[ORIGIN])
        check_way(table.roads, table.trip(names[-1])[GOAL], home)


# From home to home through all places where trips begin and end; a row without trips stays at home.
def block_length(table, home, names):
    check_block(table, home, names)
    place = home
    minutes = 0
    for name in names:
        trip = table.trip(name)
        minutes += table.roads.length(place, trip[ORIGIN]) + trip[FINISH] - trip[START]
        place = trip[GOAL]
    return minutes + table.roads.length(place, home)


def check_short(table, home, name, limit):
    if block_length(table, home, [name]) > limit:
        raise TooLong(name)


# No run of trips within a row is longer than the row, so that a piece taken as far as it goes is never a loss.
def cut(table, home, names, limit):
    check_row(table, home, names)
    for name in names:
        check_short(table, home, name, limit)
    pieces = []
    for name in names:
        if len(pieces) > 0 and block_length(table, home, pieces[-1] + [name]) <= limit:
            pieces[-1].append(name)
        else:
            pieces.append([name])
    return pieces


# A trip stands once in its row, so its name tells whether it is the last one.
def legs_of(table, home, names):
    told = []
    origin = home
    for name in names:
        trip = table.trip(name)
        goal = home if name == names[-1] else trip[GOAL]
        start = trip[START] - table.roads.length(origin, trip[ORIGIN])
        finish = trip[FINISH] + table.roads.length(trip[GOAL], goal)
        told.append((name, origin, goal, start, finish, trip[SEATS]))
        origin = trip[GOAL]
    return told


def legs(table, home, blocks):
    told = []
    for names in blocks:
        check_block(table, home, names)
        told.extend(legs_of(table, home, names))
    check_once([leg[NAME] for leg in told])
    return told
