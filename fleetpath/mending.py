"""Rows of trips mended at a minute: their tails dealt anew, so that the fewest trips are left."""

from fleetpath.checks import check_most
from fleetpath.errors import Twice
from fleetpath.judges import check_key
from fleetpath.links import linked
from fleetpath.prices import deal
from fleetpath.trips import FINISH, GOAL, ORIGIN, START, check_trips

BIG = 1000
MOST_ROWS = 40


# The starts of all trips are asked for first, so that a name that is no trip is refused behind the begun ones too.
def begun(table, names, now):
    starts = [table.trip(name)[START] for name in names]
    had = []
    for name, start in zip(names, starts):
        if start > now:
            break
        had.append(name)
    return had


def pieces(table, names):
    check_trips(table, names)
    told = []
    for name in names:
        if len(told) > 0 and linked(table, told[-1][-1], name):
            told[-1].append(name)
        else:
            told.append([name])
    return told


def arrives(roads, place, minute, trip):
    length = roads.length(place, trip[ORIGIN])
    return length is not None and minute + length <= trip[START]


def in_time(table, judge, key, had, first, now):
    if len(had) > 0:
        last = table.trip(had[-1])
        return arrives(table.roads, last[GOAL], max(now, last[FINISH]), table.trip(first))
    trip = table.trip(first)
    place = judge.place_of(key)
    if place is None:
        return now <= trip[START]
    return arrives(table.roads, place, now, trip)


def check_new_trips(table, names, had):
    for name in names:
        table.trip(name)
        if name in had:
            raise Twice(name)
        had[name] = True


# The row without trips stands always: asking for it brings just what the judge refuses of the key.
def check_mending(table, judge, rows, loose, failed):
    check_most(rows, MOST_ROWS)
    had = {}
    for key in rows:
        check_new_trips(table, rows[key], had)
    check_new_trips(table, loose, had)
    for key in failed:
        check_key(key, rows)
    for key in rows:
        judge.stands(table, key, [])


# Trips that are dealt together: a piece of a key's tail, or a loose trip, which was no key's.
class Thing:
    def __init__(self, trips, key, leads, whole):
        self.trips = trips
        self.key = key
        self.leads = leads
        self.whole = whole


def things_of(table, tails, loose):
    things = []
    for key in tails:
        cut_tail = pieces(table, tails[key])
        for number, piece in enumerate(cut_tail):
            things.append(Thing(piece, key, number == 0, len(cut_tail) == 1))
    for name in loose:
        things.append(Thing([name], None, False, False))
    return things


# A key may be under way to the first piece of its own tail, so it is not asked where it stands now.
def may_have(table, judge, key, had, thing, now):
    if not judge.stands(table, key, had + thing.trips):
        return False
    if thing.leads and thing.key == key:
        return True
    return in_time(table, judge, key, had, thing.trips[0], now)


# One for each key that this changes: the one whose whole tail is taken, and one that had no tail and gets one. A
# reserve that gets something is not counted, nor is a key whose tail was cut, as that one is changed always.
def cost_of(thing, key, row, tail):
    taken = 1 if thing.whole and thing.key != key else 0
    woken = 1 if len(row) > 0 and len(tail) == 0 else 0
    return taken + woken


def cost_of_leaving(thing):
    return BIG * len(thing.trips) + (1 if thing.whole else 0)


def begun_of_rows(table, rows, now):
    return dict([(key, begun(table, rows[key], now)) for key in rows])


def tails_of_rows(rows, had):
    return dict([(key, rows[key][len(had[key]):]) for key in rows])


# What is told of a dealing: the costs and the leaving, and what goes with them.
def paper_of(things, costs, leaving):
    told = deal(costs, leaving)
    return (things, costs, leaving, told[0], told[1], told[2])


def new_rows(had, things, dealt):
    told = dict([(key, list(had[key])) for key in had])
    for number, thing in enumerate(things):
        if dealt[number] is not None:
            told[dealt[number]].extend(thing.trips)
    return told


def left_of(things, dealt):
    left = []
    for number, thing in enumerate(things):
        if dealt[number] is None:
            left.extend(thing.trips)
    return left


def mend(table, judge, rows, now, loose, failed):
    check_mending(table, judge, rows, loose, failed)
    had = begun_of_rows(table, rows, now)
    tails = tails_of_rows(rows, had)
    things = things_of(table, tails, loose)
    sound = [key for key in rows if key not in failed]
    costs = {}
    for number, thing in enumerate(things):
        able = [key for key in sound if may_have(table, judge, key, had[key], thing, now)]
        costs[number] = dict([(key, cost_of(thing, key, rows[key], tails[key])) for key in able])
    leaving = dict([(number, cost_of_leaving(thing)) for number, thing in enumerate(things)])
    paper = paper_of([thing.trips for thing in things], costs, leaving)
    told = new_rows(had, things, paper[3])
    changed = [key for key in rows if len(rows[key]) > 0 and told[key] != rows[key]]
    return (told, left_of(things, paper[3]), changed, paper)
