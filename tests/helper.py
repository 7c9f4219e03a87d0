"""What the tests share: refusals asked for, and plain searches to hold answers against."""

import copy
import inspect
import itertools
import unittest
from fractions import Fraction

from fleetpath.blocks import TooLong, Unlinked
from fleetpath.duties import Unlawful
from fleetpath.errors import LIMIT, BadName, BadNumber, FleetError, NoPlace, NoTrip, NoWay, TooMany, Twice
from fleetpath.hours import AllOf, Pause, Rule, Shift, Span, Work
from fleetpath.judges import CarJudge, DriverJudge, Judge, NoKey
from fleetpath.mending import BIG
from fleetpath.roads import Roads
from fleetpath.trips import Backward, Table, TooFast


def outcome(call, *args):
    """What a call tells, or the class and the fields of its refusal."""
    try:
        return call(*args)
    except FleetError as error:
        return (type(error), vars(error))


class Case(unittest.TestCase):
    def assert_refused(self, kind, fields, call, *args):
        with self.assertRaises(FleetError) as caught:
            call(*args)
        error = caught.exception
        self.assertIs(type(error), kind)
        for field, value in fields.items():
            self.assertEqual(getattr(error, field), value)

    def assert_too_few(self, rows, error):
        """The error's lefts have, all together in these rows, just its rights, and these are too few."""
        self.assertEqual((type(error.lefts), type(error.rights)), (list, list))
        self.assertEqual(len(set(error.lefts)), len(error.lefts))
        self.assertLessEqual(set(error.lefts), set(rows))
        self.assertEqual(len(set(error.rights)), len(error.rights))
        self.assertEqual(set(error.rights), {right for left in error.lefts for right in rows[left]})
        self.assertLess(len(error.rights), len(error.lefts))

    def assert_dealing(self, costs, leaving, told):
        """What is told is a dealing with prices that tell that none costs less; its cost."""
        dealt, thing_prices, key_prices = told
        self.assertEqual([type(part) for part in told], [dict, dict, dict])
        self.assertEqual((set(dealt), set(thing_prices)), (set(costs), set(costs)))
        self.assertEqual(set(key_prices), {key for thing in costs for key in costs[thing]})
        for thing, key in dealt.items():
            self.assertTrue(key is None or key in costs[thing])
        given = [key for key in dealt.values() if key is not None]
        self.assertEqual(len(set(given)), len(given))
        for price in list(thing_prices.values()) + list(key_prices.values()):
            self.assertIs(type(price), int)
        self.assertLessEqual(max(key_prices.values(), default=0), 0)
        for thing in costs:
            self.assertLessEqual(thing_prices[thing], leaving[thing])
            for key, cost in costs[thing].items():
                self.assertLessEqual(thing_prices[thing] + key_prices[key], cost)
        cost = plain_cost(costs, leaving, dealt)
        self.assertEqual(sum(thing_prices.values()) + sum(key_prices.values()), cost)
        return cost

    def assert_mended(self, told, office, asked, rows, now, loose, failed):
        """What a mending told is as the document tells it; the things, and what they cost."""
        self.assertEqual([type(part) for part in told], [dict, list, list, tuple])
        things = plain_things(office, rows, loose, now)
        costs = tail_costs(office, asked, rows, now, failed, things)
        leaving = {
            number: BIG * len(names) + (owner is not None and count == 1)
            for number, (names, owner, _, count) in enumerate(things)
        }
        self.assertEqual(told[3][:3], ([thing[0] for thing in things], costs, leaving))
        self.assertEqual(len(told[3]), 6)
        cost = self.assert_dealing(costs, leaving, told[3][3:])
        self.assertEqual(told[:3], dealt_rows(office, rows, now, things, told[3][3]))
        self.assertEqual(list(told[0]), list(rows))
        self.assertEqual(divmod(cost, BIG), worth(things, told))
        return things, costs

    def assert_mendings(self, mended, source, count, most_keys, look):
        """Of random rows: refused as mending refuses them, or as look holds them; what look tells is counted."""
        seen = []
        for _ in range(count):
            office, asked, rows, now, loose, failed = random_mending(source, most_keys)
            before = copy.deepcopy((rows, loose, failed))
            refusal = rows_refusal(office, asked, rows, loose, failed)
            if refusal:
                self.assertEqual(outcome(mended, office.table, asked.judge, rows, now, loose, failed), refusal)
                seen.append(refusal[0])
            else:
                seen.append(look(office, asked, rows, now, loose, failed))
            self.assertEqual((rows, loose, failed), before)
        self.assertGreater(min(seen.count(True), seen.count(False)), count // 8)
        for kind in (NoTrip, Twice, NoKey, NoPlace):
            self.assertGreater(seen.count(kind), count // 250)

    def assert_error_classes(self, module, fields_of):
        """The module defines just these error classes, straight under FleetError, with these fields."""
        defined = [
            name for name, value in vars(module).items()
            if inspect.isclass(value) and issubclass(value, FleetError)
            and value.__module__ == module.__name__ and value is not FleetError
        ]
        self.assertEqual(sorted(defined), sorted(fields_of))
        for name, fields in fields_of.items():
            kind = getattr(module, name)
            self.assertEqual(kind.__bases__, (FleetError,))
            values = [["kept", place] for place in range(len(fields))]
            error = kind(*values)
            for field, value in zip(fields, values):
                self.assertIs(getattr(error, field), value)


def plain_heights(origin, ways):
    """The least minutes to each place, by walking all ways that come to no place twice."""
    least = {}

    def walk(place, minutes, passed):
        least[place] = min(minutes, least.get(place, minutes))
        for start, goal, more in ways:
            if start == place and goal not in passed:
                walk(goal, minutes + more, passed + [goal])

    walk(origin, 0, [origin])
    return least


def random_roads(source, most_places, most_ways, longest):
    places = [f"p{number}" for number in range(source.randint(1, most_places))]
    ways = [
        (source.choice(places), source.choice(places), source.randint(1, longest))
        for _ in range(source.randint(0, most_ways))
    ]
    return places, ways


def subsets(things):
    for size in range(len(things) + 1):
        yield from itertools.combinations(things, size)


def random_table_parts(source, places, ways, count, latest):
    """A list of trips that a table takes; fewer than asked for where the roads lead too few ways."""
    heights = {place: plain_heights(place, ways) for place in places}
    trips = []
    for number in range(count):
        origin = source.choice(places)
        goal = source.choice(sorted(heights[origin]))
        start = source.randint(0, latest)
        finish = start + max(1, heights[origin][goal]) + source.randint(0, 3)
        trips.append((f"t{number}", origin, goal, start, finish, source.randint(0, 9)))
    source.shuffle(trips)
    return trips


def plain_linked(heights, one, other):
    """Whether one car can drive both trips, that one ahead; heights as plain_heights tells them, by place."""
    length = heights[one[2]].get(other[1])
    return length is not None and one[4] + length <= other[3]


def partitions(things):
    if not things:
        yield []
        return
    for rest in partitions(things[1:]):
        yield [[things[0]]] + rest
        for place in range(len(rest)):
            yield rest[:place] + [[things[0]] + rest[place]] + rest[place + 1:]


def can_be_chain(order, names):
    """Whether the names can stand in a row, each next one behind the one ahead, in some order."""
    return any(
        all(later in order[earlier] for earlier, later in zip(row, row[1:]))
        for row in itertools.permutations(names)
    )


def plain_fewest_chains(order):
    return min(
        len(parts) for parts in partitions(list(order))
        if all(can_be_chain(order, part) for part in parts)
    )


def are_apart(order, names):
    return all(other not in order[one] for one in names for other in names)


def plain_most_apart(order):
    return max(len(names) for names in subsets(list(order)) if are_apart(order, names))


class Office:
    """A table beside lengths, links and refusals that are reckoned plainly of the same places, ways and trips."""

    def __init__(self, places, ways, trips):
        self.places = list(places)
        self.ways = list(ways)
        self.trips = {trip[0]: trip for trip in trips}
        self.heights = {place: plain_heights(place, ways) for place in places}
        self.table = Table(Roads(places, ways), trips)

    def length(self, origin, goal):
        return self.heights[origin].get(goal)

    def linked(self, one, other):
        return plain_linked(self.heights, self.trips[one], self.trips[other])

    def rows(self):
        """Every row of trips, the one without names too."""
        def walk(row):
            yield row
            for name in self.trips:
                if not row or self.linked(row[-1], name):
                    yield from walk(row + [name])

        return list(walk([]))

    def linked_refusal(self, names):
        for name in names:
            if name not in self.trips:
                return (NoTrip, {"name": name})
        for one, other in zip(names, names[1:]):
            if not self.linked(one, other):
                return (Unlinked, {"first": one, "second": other})
        return None

    def row_refusal(self, home, names):
        if home not in self.places:
            return (NoPlace, {"name": home})
        return self.linked_refusal(names)

    def block_refusal(self, home, names):
        refusal = self.row_refusal(home, names)
        if refusal or not names:
            return refusal
        origin, goal = self.trips[names[0]][1], self.trips[names[-1]][2]
        if self.length(home, origin) is None:
            return (NoWay, {"origin": home, "goal": origin})
        if self.length(goal, home) is None:
            return (NoWay, {"origin": goal, "goal": home})
        return None

    def block_minutes(self, home, names):
        """Every minute in which something goes on from home to home, with the word of it and of which trip."""
        minutes = {}
        place, free = home, None
        for name in names:
            _, origin, goal, start, finish, _ = self.trips[name]
            way = self.length(place, origin)
            left = start - way if free is None else free
            minutes.update({minute: ("way", name) for minute in range(left, left + way)})
            minutes.update({minute: ("wait", name) for minute in range(left + way, start)})
            minutes.update({minute: ("trip", name) for minute in range(start, finish)})
            place, free = goal, finish
        if names:
            minutes.update({minute: ("way", None) for minute in range(free, free + self.length(place, home))})
        return minutes

    def driven(self, home, names):
        return len([word for word, _ in self.block_minutes(home, names).values() if word != "wait"])


def trip_refusal(office, trip):
    """What a table refuses of a trip that is put behind those that there are."""
    name, origin, goal, start, finish, seats = trip
    if len(office.trips) >= 40:
        return (TooMany, {"most": 40})
    if not is_name(name):
        return (BadName, {"name": name})
    if name in office.trips:
        return (Twice, {"name": name})
    for place in (origin, goal):
        if place not in office.places:
            return (NoPlace, {"name": place})
    for value in (start, finish, seats):
        if not 0 <= value <= LIMIT:
            return (BadNumber, {"value": value})
    if finish <= start:
        return (Backward, {"name": name})
    if office.length(origin, goal) is None:
        return (NoWay, {"origin": origin, "goal": goal})
    if finish - start < office.length(origin, goal):
        return (TooFast, {"name": name})
    return None


def random_office(source, most_places=4, most_ways=10, count=5, latest=25, longest=5):
    places, ways = random_roads(source, most_places, most_ways, longest)
    return Office(places, ways, random_table_parts(source, places, ways, count, latest))


def random_names(source, office, most=4):
    """A list of names that is a row more often than not, and else has strangers or names in a wrong order."""
    names = source.choice(office.rows())
    if source.random() < 0.3:
        names = [source.choice(list(office.trips) + ["stranger", ""]) for _ in range(source.randint(0, most))]
    return list(names)


def some_rules(source):
    """Rules of every class, with numbers around what small offices need."""
    plain = [
        Rule(), Span(source.randint(-1, 40)), Work(source.randint(-1, 25)),
        Pause(source.randint(-1, 15), source.randint(1, 9)),
        Shift(source.randint(-9, 15), source.randint(10, 50)),
    ]
    return plain + [AllOf(source.sample(plain[1:], source.randint(0, 3)))]


def plain_sheet(office, home, names):
    """The minutes one by one, those of one way, one wait or one trip put together."""
    minutes = office.block_minutes(home, names)
    return [
        (word, run[0][0], run[-1][0] + 1)
        for (word, _), run in (
            (key, list(group)) for key, group in itertools.groupby(sorted(minutes.items()), lambda item: item[1])
        )
    ]


def plain_fits(rule, rows):
    """Whether a rule lets a sheet by, reckoned minute by minute."""
    words = {minute: word for word, start, finish in rows for minute in range(start, finish)}
    if not words:
        return True
    if type(rule) is Span:
        return len(words) <= rule.most
    if type(rule) is Work:
        return list(words.values()).count("way") + list(words.values()).count("trip") <= rule.most
    if type(rule) is Shift:
        return all(rule.first <= minute < rule.last for minute in words)
    if type(rule) is AllOf:
        return all(plain_fits(part, rows) for part in rule.rules)
    if type(rule) is Pause:
        return all(minutes <= rule.most for minutes in stretches(rule.least, words))
    return True


def stretches(least, words):
    """The trips' minutes between pauses: one sign a minute, parted where enough signs of waiting stand together."""
    signs = "".join({"way": "", "trip": "t", "wait": "."}[words[minute]] for minute in sorted(words))
    told = [0]
    for sign, run in itertools.groupby(signs):
        count = len(list(run))
        if sign == "t":
            told[-1] += count
        elif count >= least:
            told.append(0)
    return told


def exact(top, bottom):
    """A fraction in lowest terms as a tuple, by Python's own fractions."""
    made = Fraction(top, bottom)
    return (made.numerator, made.denominator)


def plain_weight(shares, row):
    return sum((Fraction(*shares[name]) for name in row), Fraction(0))


def can_be_dealt(rows):
    """Whether each left can have a right of its own, by trying everything."""
    return any(len(set(rights)) == len(rights) for rights in itertools.product(*rows.values()))


def dealings(able):
    """Every dealing of things, each with the list of the keys that may have it."""
    if not able:
        yield {}
        return
    thing, *others = able
    for rest in dealings({other: able[other] for other in others}):
        for key in [None] + [key for key in able[thing] if key not in rest.values()]:
            yield {thing: key} | rest


def plain_cost(costs, leaving, dealt):
    return sum(leaving[thing] if key is None else costs[thing][key] for thing, key in dealt.items())


def is_name(text):
    return 1 <= len(text) <= 12 and all(sign in "abcdefghijklmnopqrstuvwxyz0123456789" for sign in text)


def listed_refusal(listed, leasts):
    """Of a list of tuples that begin with a name: more than forty, then thing by thing the name and the numbers.
    Leasts tell, by the place in the tuple, the least number that is let by."""
    if len(listed) > 40:
        return (TooMany, {"most": 40})
    had = []
    for one in listed:
        if not is_name(one[0]):
            return (BadName, {"name": one[0]})
        if one[0] in had:
            return (Twice, {"name": one[0]})
        had.append(one[0])
        for place, least in leasts.items():
            if not least <= one[place] <= LIMIT:
                return (BadNumber, {"value": one[place]})
    return None


def cars_refusal(cars):
    return listed_refusal(cars, {1: 0, 2: 0})


def drivers_refusal(drivers):
    return listed_refusal(drivers, {2: -LIMIT, 3: 0, 4: 0})


def plain_may(office, rule, asked, names):
    """Whether a driver may have a duty, reckoned minute by minute."""
    _, home, ended, rest, last = asked
    if not names:
        return True
    if office.block_refusal(home, names):
        return False
    rows = plain_sheet(office, home, names)
    minutes = office.block_minutes(home, names)
    return plain_fits(rule, rows) and min(minutes) >= ended + rest and max(minutes) + 1 <= last


class AnyKeys:
    """The plain judge, beside the same reckoned plainly."""

    def __init__(self):
        self.judge = Judge()

    def known(self, key):
        return True

    def place(self, key):
        return None

    def may_drive(self, office, key, names):
        return all(office.linked(one, other) for one, other in zip(names, names[1:]))

    def key_refusal(self, office, key):
        if not self.known(key):
            return (NoKey, {"name": key})
        if self.place(key) is not None and self.place(key) not in office.places:
            return (NoPlace, {"name": self.place(key)})
        return None

    def refusal(self, office, key, names):
        refusal = self.key_refusal(office, key)
        if refusal:
            return refusal
        for name in names:
            if name not in office.trips:
                return (NoTrip, {"name": name})
        return None


class SomeCars(AnyKeys):
    def __init__(self, home, cars):
        self.judge = CarJudge(home, cars)
        self.home = home
        self.cars = {car[0]: car for car in cars}

    def known(self, key):
        return key in self.cars

    def place(self, key):
        return self.home

    def may_drive(self, office, key, names):
        return not office.block_refusal(self.home, names) and car_fits(office, self.home, names, self.cars[key])


class SomeDrivers(AnyKeys):
    def __init__(self, rule, drivers):
        self.judge = DriverJudge(rule, drivers)
        self.rule = rule
        self.drivers = {asked[0]: asked for asked in drivers}

    def known(self, key):
        return key in self.drivers

    def place(self, key):
        return self.drivers[key][1]

    def may_drive(self, office, key, names):
        return plain_may(office, self.rule, self.drivers[key], names)


def random_judge(source, office, keys, strangers=0.05):
    """A judge of any class that knows the keys, or not all of them, or whose home is no place, as often as told."""
    if source.random() < strangers:
        keys = keys[1:]
    places = office.places if source.random() >= strangers else ["moon"]
    cars = [(key, source.randint(0, 12), source.randint(0, 40)) for key in keys]
    drivers = [
        (key, source.choice(places), source.randint(-30, 3), source.randint(0, 10), source.randint(15, 80))
        for key in keys
    ]
    return source.choice([
        AnyKeys(), SomeCars(source.choice(places), cars), SomeDrivers(source.choice(some_rules(source)), drivers),
    ])


def plain_begun(office, names, now):
    return list(itertools.takewhile(lambda name: office.trips[name][3] <= now, names))


def plain_pieces(office, names):
    cuts = [place for place in range(1, len(names)) if not office.linked(names[place - 1], names[place])]
    edges = [0] + cuts + [len(names)]
    return [names[begin:end] for begin, end in zip(edges, edges[1:]) if begin < end]


def plain_in_time(office, asked, key, had, first, now):
    """Whether a minute from now on, in which the key is free, leaves enough of them ahead of the trip's start."""
    place = office.trips[had[-1]][2] if had else asked.place(key)
    free = max([now] + [office.trips[name][4] for name in had[-1:]])
    way = 0 if place is None else office.length(place, office.trips[first][1])
    return way is not None and office.trips[first][3] - free >= way


def rows_refusal(office, asked, rows, loose, failed):
    """What mending refuses of rows, loose trips and failed keys."""
    if len(rows) > 40:
        return (TooMany, {"most": 40})
    had = []
    for names in list(rows.values()) + [loose]:
        for name in names:
            if name not in office.trips:
                return (NoTrip, {"name": name})
            if name in had:
                return (Twice, {"name": name})
            had.append(name)
    for key in failed:
        if key not in rows:
            return (NoKey, {"name": key})
    for key in rows:
        refusal = asked.key_refusal(office, key)
        if refusal:
            return refusal
    return None


def random_rows(source, office, keys, strange=0.05):
    """Rows and loose trips of an office, most rows by their starts, now and then with a name that is due elsewhere."""
    names = source.sample(sorted(office.trips), len(office.trips))
    rows = {key: [] for key in keys}
    lists = list(rows.values()) * 3 + [[], []]
    for name in names:
        source.choice(lists).append(name)
    if source.random() < strange:
        source.choice(lists).append(source.choice(sorted(office.trips) + ["stranger", ""]))
    for key in rows:
        if source.random() < 0.8:
            rows[key].sort(key=lambda name: office.trips.get(name, (0, 0, 0, 99))[3])
    return rows, lists[-1]


def plain_things(office, rows, loose, now):
    """The things with the key of whose tail each is a piece, and its place among how many pieces."""
    things = []
    for key, names in rows.items():
        cut = plain_pieces(office, names[len(plain_begun(office, names, now)):])
        things += [(piece, key, place, len(cut)) for place, piece in enumerate(cut)]
    return things + [([name], None, 0, 1) for name in loose]


def plain_able(office, asked, rows, now, failed, thing):
    names, owner, place, _ = thing
    told = []
    for key, row in rows.items():
        had = plain_begun(office, row, now)
        under_way = key == owner and place == 0
        if key not in failed and asked.may_drive(office, key, had + names):
            if under_way or plain_in_time(office, asked, key, had, names[0], now):
                told.append(key)
    return told


def tail_costs(office, asked, rows, now, failed, things):
    costs = {}
    for number, thing in enumerate(things):
        costs[number] = {
            key: (thing[1] not in (None, key) and thing[3] == 1)
            + (rows[key] != [] and plain_begun(office, rows[key], now) == rows[key])
            for key in plain_able(office, asked, rows, now, failed, thing)
        }
    return costs


def dealt_rows(office, rows, now, things, dealt):
    told = {key: plain_begun(office, names, now) for key, names in rows.items()}
    for number, key in dealt.items():
        if key is not None:
            told[key] = told[key] + things[number][0]
    left = [name for number in sorted(dealt) if dealt[number] is None for name in things[number][0]]
    return told, left, [key for key in rows if rows[key] and told[key] != rows[key]]


def worth(things, told):
    """How many trips are left, and how many rows that were not empty changed, but for those that were cut."""
    cut = {thing[1] for thing in things if thing[3] > 1}
    return (len(told[1]), len([key for key in told[2] if key not in cut]))


def random_mending(source, most_keys):
    """An office, a judge, rows, a minute, loose trips and failed keys, now and then with something to refuse."""
    office = random_office(source, most_ways=14, count=source.randint(0, 6), latest=30)
    keys = ["k", "l", "m", "n"][:source.randint(0, most_keys)]
    asked = random_judge(source, office, keys)
    rows, loose = random_rows(source, office, keys)
    failed = [source.choice(keys + ["z"] * (source.random() < 0.05)) for _ in keys if source.random() < 0.2]
    return office, asked, rows, source.randint(-2, 30), loose, failed


def plain_lawful(office, home, rule):
    return [
        names for names in office.rows()
        if 1 <= len(names) <= 5 and office.block_refusal(home, names) is None
        and plain_fits(rule, plain_sheet(office, home, names))
    ]


def lawful_refusal(office, home, rule):
    if home not in office.places:
        return (NoPlace, {"name": home})
    for name in sorted(office.trips, key=lambda name: (office.trips[name][3], office.trips[name][4], name)):
        refusal = office.block_refusal(home, [name])
        if refusal:
            return refusal
        if not plain_fits(rule, plain_sheet(office, home, [name])):
            return (Unlawful, {"name": name})
    return None


def groups(*counts):
    """A table of groups of trips, in each of which all are linked, each group too far away from the others."""
    places = ["h"] + [f"p{number}" for number in range(len(counts))]
    ways = [("h", place, 1000) for place in places[1:]] + [(place, "h", 1000) for place in places[1:]]
    trips = [
        (f"t{group}x{number}", f"p{group}", f"p{group}", 5000 + 2 * number, 5001 + 2 * number, 0)
        for group, count in enumerate(counts) for number in range(count)
    ]
    return Table(Roads(places, ways), trips)


def cut_refusal(office, home, names, limit):
    refusal = office.row_refusal(home, names)
    if refusal:
        return refusal
    for name in names:
        refusal = office.block_refusal(home, [name])
        if refusal:
            return refusal
        if office.driven(home, [name]) > limit:
            return (TooLong, {"name": name})
    return None


def drive(metre, loads, night):
    """What the metre shows at each day's end, by driving one minute after the other."""
    shown = []
    for day, load in enumerate(loads):
        for _ in range(load):
            metre += 1
        shown.append(metre)
        if day == night:
            metre = 0
    return shown


def plain_nights(metre, due, loads):
    return [night for night in range(7) if all(minutes <= due for minutes in drive(metre, loads, night))]


def blocks_refusal(office, home, blocks, cars):
    refusal = cars_refusal(cars)
    if refusal:
        return refusal
    if len(blocks) > 40:
        return (TooMany, {"most": 40})
    for names in blocks:
        refusal = office.block_refusal(home, names)
        if refusal:
            return refusal
    return None


def car_fits(office, home, names, car):
    return all(office.trips[name][5] <= car[1] for name in names) and office.driven(home, names) <= car[2]


def random_weeks(source, count):
    return [
        (f"c{number}", source.randint(0, 6), source.randint(4, 9), [source.randint(0, 2) for _ in range(7)])
        for number in range(count)
    ]


class Changes:
    """Values of the same kind with one thing changed: a number, a name, something more, less or twice. Nones tells
    whether None is of that kind in dicts, nested whether the lists hold lists, texts whether they can hold texts."""

    def __init__(self, names, nones=False, nested=False, texts=True):
        self.names = names
        self.nones = nones
        self.nested = nested
        self.texts = texts

    def of(self, value):
        if isinstance(value, int):
            yield from (value + 1, value - 1, -1 - value)
        elif isinstance(value, str):
            yield from (name for name in self.names if name != value)
        elif isinstance(value, tuple):
            for place, part in enumerate(value):
                yield from (value[:place] + (other,) + value[place + 1:] for other in self.of(part))
        elif isinstance(value, list):
            yield from self.of_list(value)
        elif isinstance(value, dict):
            yield from self.of_dict(value)

    def of_list(self, value):
        yield []
        for place, part in enumerate(value):
            yield value[:place] + value[place + 1:]
            yield value[:place] + [part] + value[place:]
            yield value[:place] + value[place + 1:] + [part]
            inner = Changes(self.names, self.nones) if self.nested else self
            yield from (value[:place] + [other] + value[place + 1:] for other in inner.of(part))
        if self.nested:
            yield value + [[]]
            yield from (value + [[name]] for name in self.names)
        elif self.texts and (not value or isinstance(value[0], str)):
            yield from (value + [name] for name in self.names)

    def of_dict(self, value):
        yield {}
        for key, part in value.items():
            rest = {other: value[other] for other in value if other != key}
            yield rest
            yield from (rest | {other: part} for other in self.of(key))
            yield from (value | {other: part} for other in self.of(key) if other not in value)
            yield from (value | {key: other} for other in self.of(part))
            if self.nones:
                yield from (value | {key: other} for other in self.names + [0, 3, None] if other != part)


def changed_asks(source, told, changes, count):
    """Arguments like those told with one of them changed in one thing, as many as told at most; the changes stand at
    the places of those that may be."""
    found = [
        told[:place] + (other,) + told[place + 1:] for place in changes for other in changes[place].of(told[place])
    ]
    return source.sample(found, min(count, len(found)))
