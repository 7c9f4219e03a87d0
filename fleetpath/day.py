"""A day that goes on by ticks of the clock and by news, each of which mends its rows."""

from fleetpath.checks import checked_number
from fleetpath.errors import FleetError
from fleetpath.judges import check_key
from fleetpath.mending import begun, check_mending, mend
from fleetpath.trips import FINISH, GOAL, NAME, ORIGIN, SEATS, START, Table


class Unfit(FleetError):
    def __init__(self, name):
        self.name = name


class Back(FleetError):
    def __init__(self, value):
        self.value = value


class Done(FleetError):
    def __init__(self, name):
        self.name = name


class Past(FleetError):
    def __init__(self, name):
        self.name = name


class Failed(FleetError):
    def __init__(self, name):
        self.name = name


def check_fit(table, judge, rows):
    for key in rows:
        if not judge.stands(table, key, rows[key]):
            raise Unfit(key)


def trips_of(table):
    return [table.trip(name) for name in table.names()]


def trips_outside(table, rows):
    driven = {}
    for key in rows:
        for name in rows[key]:
            driven[name] = True
    return [name for name in table.names() if name not in driven]


def started(table, names, minute):
    return [name for name in names if table.trip(name)[START] <= minute]


def not_started(table, names, minute):
    return [name for name in names if table.trip(name)[START] > minute]


# Of a trip that has begun only the finish can still come later. What goes beyond the bounds the table refuses.
def delayed(trip, minutes, now):
    start = trip[START] if trip[START] <= now else trip[START] + minutes
    return (trip[NAME], trip[ORIGIN], trip[GOAL], start, trip[FINISH] + minutes, trip[SEATS])


def copied_rows(rows):
    return dict([(key, list(rows[key])) for key in rows])


def copied_paper(paper):
    things = [list(names) for names in paper[0]]
    costs = dict([(number, dict(paper[1][number])) for number in paper[1]])
    return (things, costs, dict(paper[2]), dict(paper[3]), dict(paper[4]), dict(paper[5]))


# A row stands at the beginning and behind each mending, or has begun whole: so the starts in it rise, and those of its
# trips that start at now or earlier are just the begun ones. A trip that waits to be driven starts later than now.
class Day:
    def __init__(self, table, judge, rows, now=0):
        checked_number(now, 0)
        check_mending(table, judge, rows, [], [])
        check_fit(table, judge, rows)
        outside = trips_outside(table, rows)
        self.plan = Table(table.roads, trips_of(table))
        self.judge = judge
        self.minute = now
        self.driven = copied_rows(rows)
        self.waiting = not_started(table, outside, now)
        self.missed = started(table, outside, now)
        self.failures = []
        self.news = None

    def now(self):
        return self.minute

    def rows(self):
        return copied_rows(self.driven)

    def left(self):
        return list(self.waiting)

    def lost(self):
        return list(self.missed)

    def table(self):
        return Table(self.plan.roads, trips_of(self.plan))

    def paper(self):
        if self.news is None:
            return None
        return (list(self.news[0]), copied_paper(self.news[1]))

    def tick(self, minute):
        checked_number(minute, 0)
        if minute < self.minute:
            raise Back(minute)
        self.missed = self.missed + started(self.plan, self.waiting, minute)
        self.waiting = not_started(self.plan, self.waiting, minute)
        self.minute = minute

    # Nothing of the day is changed until all that can be refused has been asked for.
    def take_news(self, plan, loose, failures):
        told = mend(plan, self.judge, self.driven, self.minute, loose, failures)
        self.plan = plan
        self.driven = told[0]
        self.waiting = told[1]
        self.failures = failures
        self.news = (told[2], told[3])

    # The last begun trip of a row is the only one that may still be under way.
    def check_not_done(self, trip):
        if trip[START] > self.minute:
            return
        last = [begun(self.plan, names, self.minute)[-1:] for names in self.driven.values()]
        if [trip[NAME]] not in last or trip[FINISH] <= self.minute:
            raise Done(trip[NAME])

    def late(self, name, minutes):
        trip = self.plan.trip(name)
        checked_number(minutes, 1)
        self.check_not_done(trip)
        later = delayed(trip, minutes, self.minute)
        others = [other for other in trips_of(self.plan) if other[NAME] != name]
        self.take_news(Table(self.plan.roads, others + [later]), self.waiting, self.failures)

    def put_in(self, trip):
        plan = Table(self.plan.roads, trips_of(self.plan) + [trip])
        if trip[START] <= self.minute:
            raise Past(trip[NAME])
        self.take_news(plan, self.waiting + [trip[NAME]], self.failures)

    def fail(self, key):
        check_key(key, self.driven)
        if key in self.failures:
            raise Failed(key)
        self.take_news(self.plan, self.waiting, self.failures + [key])
