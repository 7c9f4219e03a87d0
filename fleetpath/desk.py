"""A desk that takes lines of words: what an office has is set up, asked, and led through a day."""

from fleetpath.blocks import cut, legs
from fleetpath.care import care, check_weeks
from fleetpath.chains import apart, chains
from fleetpath.clock import read
from fleetpath.crews import bounds
from fleetpath.day import Day
from fleetpath.drivers import HOME, check_drivers, give_drivers
from fleetpath.duties import lawful
from fleetpath.errors import BadNumber, FleetError, TooMany
from fleetpath.giving import check_cars, give_cars
from fleetpath.hours import AllOf, Pause, Shift, Span, Work
from fleetpath.judges import CarJudge
from fleetpath.links import links
from fleetpath.roads import Roads, check_place
from fleetpath.texts import BadLine, joined, number_of, words_of
from fleetpath.trips import Table

MOST_RULES = 8
NONE = "none"

# Each line by its first word, of rule lines by the first two, with what the words behind are.
FORMS = {
    "place": "name",
    "way": "name name number",
    "trip": "name name name time time number",
    "car": "name number number",
    "home": "name",
    "driver": "name name number number number",
    "week": "name number number number number number number number number number",
    "rule span": "number",
    "rule work": "number",
    "rule pause": "number number",
    "rule shift": "time time",
    "length": "name name",
    "road": "name name",
    "chains": "",
    "care": "number",
    "blocks": "number",
    "give": "number",
    "duties": "number",
    "drive": "number",
    "open": "number",
    "tick": "time",
    "late": "name number",
    "put": "name name name time time number",
    "fail": "name",
    "rows": "",
}
AHEAD_OF_DAY = (
    "place", "way", "trip", "car", "home", "driver", "week", "open",
    "rule span", "rule work", "rule pause", "rule shift",
)
IN_DAY = ("tick", "late", "put", "fail", "rows")


class NoDay(FleetError):
    pass


class DayOpen(FleetError):
    pass


class NoHome(FleetError):
    pass


def roads_of(desk):
    return Roads(desk.places, desk.ways)


def table_of(desk):
    return Table(roads_of(desk), desk.trips)


# Lines that set up: what is one more is asked for together with all that there is, and only then taken.
def add_place(desk, told):
    Roads(desk.places + told, desk.ways)
    desk.places.extend(told)
    return []


def add_way(desk, told):
    Roads(desk.places, desk.ways + [tuple(told)])
    desk.ways.append(tuple(told))
    return []


def add_trip(desk, told):
    Table(roads_of(desk), desk.trips + [tuple(told)])
    desk.trips.append(tuple(told))
    return []


def add_car(desk, told):
    check_cars(desk.cars + [tuple(told)])
    desk.cars.append(tuple(told))
    return []


def set_home(desk, told):
    check_place(told[0], desk.places)
    desk.home = told[0]
    return []


def add_driver(desk, told):
    check_drivers(desk.drivers + [tuple(told)])
    check_place(told[HOME], desk.places)
    desk.drivers.append(tuple(told))
    return []


def add_week(desk, told):
    week = (told[0], told[1], told[2], told[3:])
    check_weeks(desk.weeks + [week])
    desk.weeks.append(week)
    return []


def check_room_for_rule(desk):
    if len(desk.rules) >= MOST_RULES:
        raise TooMany(MOST_RULES)


def add_rule(desk, rule):
    check_room_for_rule(desk)
    desk.rules.append(rule)
    return []


def add_span(desk, told):
    return add_rule(desk, Span(told[0]))


def add_work(desk, told):
    return add_rule(desk, Work(told[0]))


# A ninth rule is refused ahead of a pause of no minutes. A pause may be longer than any count.
def add_pause(desk, told):
    rule = Pause(told[0], told[1])
    check_room_for_rule(desk)
    if told[1] < 1:
        raise BadNumber(told[1])
    return add_rule(desk, rule)


def add_shift(desk, told):
    return add_rule(desk, Shift(told[0], told[1]))


def number_or_none(number):
    return NONE if number is None else str(number)


def counted(word, number):
    return joined(word, [str(number)])


# Lines that ask of what was set up, also in a day.
def tell_length(desk, told):
    return [joined("length", [number_or_none(roads_of(desk).length(told[0], told[1]))])]


def tell_road(desk, told):
    way = roads_of(desk).way(told[0], told[1])
    return [joined("road", [NONE] if way is None else way)]


def tell_chains(desk, told):
    order = links(table_of(desk))
    cars = chains(order)
    return [counted("cars", len(cars))] + [joined("chain", names) for names in cars] + [joined("apart", apart(order))]


def tell_care(desk, told):
    cared = care(desk.weeks, told[0])
    return [joined("care", [name, number_or_none(cared[name])]) for name, metre, due, loads in desk.weeks]


def blocks_of(desk, table, limit):
    if desk.home is None:
        raise NoHome()
    blocks = []
    for chain in chains(links(table)):
        blocks.extend(cut(table, desk.home, chain, limit))
    return blocks


def tell_blocks(desk, told):
    table = table_of(desk)
    blocks = blocks_of(desk, table, told[0])
    low = counted("low", len(apart(links(table))))
    return [low, counted("high", len(blocks))] + [joined("block", names) for names in blocks]


# Of each car that is given, its block.
def given_blocks(desk, table, limit):
    blocks = blocks_of(desk, table, limit)
    return list(zip(give_cars(table, desk.home, blocks, desk.cars), blocks))


def tell_given(desk, told):
    return [joined("car", [name] + names) for name, names in given_blocks(desk, table_of(desk), told[0])]


def legs_table(desk, limit):
    table = table_of(desk)
    return Table(table.roads, legs(table, desk.home, blocks_of(desk, table, limit)))


def bounds_of(desk, table):
    return bounds(table.names(), lawful(table, desk.home, AllOf(desk.rules)))


def tell_duties(desk, told):
    table = legs_table(desk, told[0])
    found = bounds_of(desk, table)
    duties = [joined("duty", names) for names in found[2]]
    shares = [joined("share", [name, str(found[3][name][0]), str(found[3][name][1])]) for name in table.names()]
    return [counted("low", found[0]), counted("high", found[1])] + duties + shares


def tell_drivers(desk, told):
    table = legs_table(desk, told[0])
    duties = bounds_of(desk, table)[2]
    drivers = give_drivers(table, AllOf(desk.rules), duties, desk.drivers)
    return [joined("driver", [name] + names) for name, names in zip(drivers, duties)]


# Lines of the day.
def tell_rows(desk, told):
    rows = desk.day.rows()
    lines = [joined("row", [name] + rows[name]) for name in rows]
    return lines + [joined("left", desk.day.left()), joined("lost", desk.day.lost())]


def begin_day(desk, told):
    table = table_of(desk)
    rows = dict([(name, []) for name, seats, reach in desk.cars])
    rows.update(dict(given_blocks(desk, table, told[0])))
    desk.day = Day(table, CarJudge(desk.home, desk.cars), rows)
    return tell_rows(desk, told)


def take_tick(desk, told):
    desk.day.tick(told[0])
    return tell_rows(desk, told)


def take_late(desk, told):
    desk.day.late(told[0], told[1])
    return tell_rows(desk, told)


def take_put(desk, told):
    desk.day.put_in(tuple(told))
    return tell_rows(desk, told)


def take_fail(desk, told):
    desk.day.fail(told[0])
    return tell_rows(desk, told)


# What is done for each line, with what its words tell.
DEEDS = {
    "place": add_place,
    "way": add_way,
    "trip": add_trip,
    "car": add_car,
    "home": set_home,
    "driver": add_driver,
    "week": add_week,
    "rule span": add_span,
    "rule work": add_work,
    "rule pause": add_pause,
    "rule shift": add_shift,
    "length": tell_length,
    "road": tell_road,
    "chains": tell_chains,
    "care": tell_care,
    "blocks": tell_blocks,
    "give": tell_given,
    "duties": tell_duties,
    "drive": tell_drivers,
    "open": begin_day,
    "tick": take_tick,
    "late": take_late,
    "put": take_put,
    "fail": take_fail,
    "rows": tell_rows,
}


def read_word(kind, word):
    if kind == "number":
        return number_of(word)
    if kind == "time":
        return read(word)
    return word


def check_day(day, form):
    if day is not None and form in AHEAD_OF_DAY:
        raise DayOpen()
    if day is None and form in IN_DAY:
        raise NoDay()


class Desk:
    def __init__(self):
        self.places = []
        self.ways = []
        self.trips = []
        self.cars = []
        self.home = None
        self.drivers = []
        self.weeks = []
        self.rules = []
        self.day = None

    def run(self, line):
        words = words_of(line)
        known = 2 if words[0] == "rule" else 1
        form = " ".join(words[:known])
        if form not in FORMS or len(words) - known != len(FORMS[form].split()):
            raise BadLine(line)
        check_day(self.day, form)
        told = [read_word(kind, word) for kind, word in zip(FORMS[form].split(), words[known:])]
        deed = DEEDS[form]
        return deed(self, told)
