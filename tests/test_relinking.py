import copy
import random

from fleetpath import relinking as module
from fleetpath.errors import LIMIT, NoPlace, NoTrip, TooMany, Twice
from fleetpath.hours import Rule, Span
from fleetpath.judges import CarJudge, DriverJudge, Judge, NoKey
from fleetpath.mending import BIG
from fleetpath.relinking import relink
from fleetpath.roads import Roads
from fleetpath.trips import Table
from tests.helper import Case, dealings, plain_begun, plain_in_time, random_judge, random_office, random_rows

PLACES = ["h", "p", "out", "in"]
WAYS = [("h", "p", 3), ("p", "h", 4), ("h", "out", 1), ("in", "h", 1)]
TRIPS = [
    ("a", "p", "p", 10, 15, 2), ("b", "p", "p", 20, 24, 5), ("c", "h", "h", 40, 41, 0), ("d", "h", "p", 10, 30, 0),
]
TABLE = Table(Roads(PLACES, WAYS), TRIPS)
CARS = [("k", 0, 0), ("l", 0, 0), ("m", 0, 0)]


def plain_open(office, rows, loose, now):
    return sum((names[len(plain_begun(office, names, now)):] for names in rows.values()), []) + list(loose)


def stood_behind(office, rows, now, one, other):
    """Whether the other trip stood straight behind the one, both not begun."""
    tails = [names[len(plain_begun(office, names, now)):] for names in rows.values()]
    return any(pair == (one, other) for tail in tails for pair in zip(tail, tail[1:]))


def cost_for_key(office, asked, rows, now, key, name):
    had = plain_begun(office, rows[key], now)
    if rows[key][len(had):][:1] == [name]:
        return 0 if not had or office.linked(had[-1], name) else None
    return 1 if plain_in_time(office, asked, key, had, name, now) else None


def plain_costs(office, asked, rows, now, loose, failed):
    names = plain_open(office, rows, loose, now)
    costs = {number: {} for number in range(len(names))}
    for number, name in enumerate(names):
        for place, key in enumerate(rows):
            cost = cost_for_key(office, asked, rows, now, key, name)
            if key not in failed and cost is not None:
                costs[number][place] = cost
        for place, one in enumerate(names):
            if place == number:
                costs[number][len(rows) + place] = BIG
            elif office.linked(one, name):
                costs[number][len(rows) + place] = 0 if stood_behind(office, rows, now, one, name) else 1
    return costs


def rows_by(office, rows, now, names, dealt):
    """The new rows and what is left, by going from each trip to what it goes behind."""
    told = {key: plain_begun(office, row, now) for key, row in rows.items()}
    keys = list(rows)

    def first_of(number):
        place = dealt[number]
        while place >= len(keys) and dealt[place - len(keys)] != place:
            place = dealt[place - len(keys)]
        return place

    left = [names[number] for number in sorted(dealt) if dealt[number] == len(keys) + number]
    for number in sorted(dealt, key=lambda number: office.trips[names[number]][3]):
        if names[number] not in left:
            told[keys[first_of(number)]].append(names[number])
    return told, left


def can_follow(office, asked, rows, now, key, chain):
    """Whether a key may drive the open trips behind what it has begun, by links alone."""
    if chain and cost_for_key(office, asked, rows, now, key, chain[0]) is None:
        return False
    return all(office.linked(one, other) for one, other in zip(chain, chain[1:]))


def links_behind(office, rows, now, told):
    """Of each trip not begun, the trip straight ahead of it, or the key whose tail it begins."""
    ahead = {}
    for key, names in told.items():
        tail = names[len(plain_begun(office, rows[key], now)):]
        ahead |= dict(zip(tail, [("key", key)] + tail))
    return ahead


def new_links(office, rows, now, told):
    before = links_behind(office, rows, now, rows)
    return sum(before.get(name) != one for name, one in links_behind(office, rows, now, told).items())


def all_ways(office, asked, rows, now, names, failed):
    """Every way to deal open trips to keys, in whatever order, with what is left; chains go by their starts."""
    names = sorted(names, key=lambda name: office.trips[name][3])
    sound = [key for key in rows if key not in failed]

    def walk(place, chains):
        if place == len(names):
            if all(can_follow(office, asked, rows, now, key, chain) for key, chain in chains.items()):
                yield {key: plain_begun(office, rows[key], now) + chains.get(key, []) for key in rows}
            return
        yield from walk(place + 1, chains)
        for key in sound:
            yield from walk(place + 1, chains | {key: chains[key] + [names[place]]})

    return walk(0, {key: [] for key in sound})


class Relinked(Case):
    def assert_relinked(self, office, asked, rows, now, loose, failed):
        told = relink(office.table, asked.judge, rows, now, loose, failed)
        self.assertEqual([type(part) for part in told], [dict, list, tuple])
        names = plain_open(office, rows, loose, now)
        costs = plain_costs(office, asked, rows, now, loose, failed)
        leaving = {number: 50 * BIG for number in range(len(names))}
        self.assertEqual(told[2][:3], (names, costs, leaving))
        self.assertEqual(len(told[2]), 6)
        cost = self.assert_dealing(costs, leaving, told[2][3:])
        self.assertNotIn(None, told[2][3].values())
        self.assertEqual(told[:2], rows_by(office, rows, now, names, told[2][3]))
        self.assertEqual(list(told[0]), list(rows))
        self.assertEqual(divmod(cost, BIG), (len(told[1]), new_links(office, rows, now, told[0])))
        return told, names, cost

    def assert_best(self, office, asked, rows, now, failed, names, cost):
        best = min(
            (len(names) - sum(len(way[key]) - len(plain_begun(office, rows[key], now)) for key in rows),
             new_links(office, rows, now, way))
            for way in all_ways(office, asked, rows, now, names, failed)
        )
        self.assertEqual(divmod(cost, BIG), best)

    def look(self, office, asked, rows, now, loose, failed):
        told, names, cost = self.assert_relinked(office, asked, rows, now, loose, failed)
        self.assert_best(office, asked, rows, now, failed, names, cost)
        return told[1] != []

    def test_against_a_plain_search(self):
        self.assert_mendings(relink, random.Random(701), 750, 3, self.look)

    def test_no_dealing_of_the_costs_is_better(self):
        source = random.Random(702)
        for _ in range(60):
            office = random_office(source, most_ways=14, count=4, latest=30)
            asked = random_judge(source, office, ["k", "l"], strangers=0)
            rows, loose = random_rows(source, office, ["k", "l"], strange=0)
            told = relink(office.table, asked.judge, rows, 5, loose, [])
            costs, leaving = told[2][1:3]
            least = min(
                sum(leaving[number] if key is None else costs[number][key] for number, key in dealt.items())
                for dealt in dealings(costs)
            )
            self.assertEqual(self.assert_dealing(costs, leaving, told[2][3:]), least)

    def test_numbers_and_costs(self):
        told = relink(TABLE, Judge(), {"k": ["a", "b"], "l": []}, 0, ["d", "c"], [])
        self.assertEqual(told[2][0], ["a", "b", "d", "c"])
        self.assertEqual(told[2][1], {
            0: {0: 0, 1: 1, 2: BIG}, 1: {0: 1, 1: 1, 2: 0, 3: BIG}, 2: {0: 1, 1: 1, 4: BIG},
            3: {0: 1, 1: 1, 2: 1, 3: 1, 4: 1, 5: BIG},
        })
        self.assertEqual(told[2][2], {number: 50000 for number in range(4)})
        self.assertEqual(sum(told[2][4].values()) + sum(told[2][5].values()), 2)
        self.assertEqual(told[1], [])
        self.assertIn(told[0], ({"k": ["a", "b", "c"], "l": ["d"]}, {"k": ["a", "b"], "l": ["d", "c"]}))

    def test_nothing_gone_wrong(self):
        for judge in (Judge(), CarJudge("h", CARS), DriverJudge(Span(-1), [(key, "h", LIMIT, 9, 0) for key in "klm"])):
            for now in (-5, 0, 10, 15, 23, 99):
                rows = {"k": ["a", "b"], "l": [], "m": ["d", "c"]}
                told = relink(TABLE, judge, rows, now, [], [])
                self.assertEqual(told[:2], (rows, []))
                self.assertEqual(sum(told[2][4].values()) + sum(told[2][5].values()), 0)

    def test_reach_seats_and_hours_are_not_looked_at(self):
        for judge in (CarJudge("h", CARS), DriverJudge(Span(-1), [("k", "h", LIMIT, 9, 0)])):
            told = relink(TABLE, judge, {"k": []}, 0, ["b", "a", "c"], [])
            self.assertEqual(told[:2], ({"k": ["a", "b", "c"]}, []))

    def test_the_first_trip_of_its_own_tail(self):
        judge = CarJudge("h", CARS)
        self.assertEqual(relink(TABLE, judge, {"k": ["b"]}, 19, [], [])[:2], ({"k": ["b"]}, []))
        self.assertEqual(relink(TABLE, judge, {"k": []}, 18, ["b"], [])[:2], ({"k": []}, ["b"]))
        self.assertEqual(relink(TABLE, judge, {"k": []}, 17, ["b"], [])[:2], ({"k": ["b"]}, []))
        table = Table(Roads(["h"], []), [("x", "h", "h", 0, 20, 0), ("y", "h", "h", 15, 30, 0)])
        told = relink(table, Judge(), {"k": ["x", "y"], "l": []}, 5, [], [])
        self.assertEqual((told[:2], told[2][1]), (({"k": ["x"], "l": ["y"]}, []), {0: {1: 1, 2: BIG}}))

    def test_failed_keys(self):
        rows = {"k": ["a", "b"], "l": ["d"], "m": []}
        told = relink(TABLE, Judge(), rows, 0, ["c"], ["k", "m", "k"])
        self.assertEqual(told[2][1], {
            0: {1: 1, 3: BIG}, 1: {1: 1, 3: 0, 4: BIG}, 2: {1: 0, 5: BIG}, 3: {1: 1, 3: 1, 4: 1, 5: 1, 6: BIG},
        })
        self.assertEqual(told[:2], ({"k": [], "l": ["a", "b", "c"], "m": []}, ["d"]))
        told = relink(TABLE, Judge(), rows, 10, ["c"], ["k", "l", "m"])
        self.assertEqual(told[:2], ({"k": ["a"], "l": ["d"], "m": []}, ["b", "c"]))

    def test_left_rising_by_their_numbers(self):
        told = relink(TABLE, Judge(), {"k": ["b", "a"]}, 0, ["d", "c"], ["k"])
        self.assertEqual((told[1], told[2][0]), (["b", "a", "d", "c"], ["b", "a", "d", "c"]))
        self.assertEqual(told[2][3], {0: 1, 1: 2, 2: 3, 3: 4})

    def test_no_keys_and_no_trips(self):
        self.assertEqual(relink(TABLE, Judge(), {}, 0, [], []), ({}, [], ([], {}, {}, {}, {}, {})))
        self.assertEqual(relink(TABLE, CarJudge("moon", []), {}, 0, ["b", "a"], [])[:2], ({}, ["b", "a"]))

    def test_forty_keys_and_forty_trips(self):
        trips = [(f"t{number}", "h", "h", number, number + 15, 0) for number in range(1, 41)]
        table = Table(Roads(["h"], []), trips)
        for keys, left in ((40, 0), (15, 0), (14, 2), (1, 37)):
            rows = {f"k{number}": [] for number in range(keys)}
            told = relink(table, Judge(), rows, 0, table.names(), [])
            self.assert_dealing(told[2][1], told[2][2], told[2][3:])
            self.assertEqual(len(told[1]), left)
            self.assertEqual(sorted(sum(told[0].values(), told[1])), sorted(table.names()))


class Refused(Case):
    def refused(self, kind, fields, rows, loose, failed, judge=None):
        for now in (-1, 0, 99, LIMIT + 1):
            self.assert_refused(kind, fields, relink, TABLE, judge or Judge(), rows, now, loose, failed)

    def test_as_mending_refuses(self):
        none, moon = CarJudge("moon", []), CarJudge("moon", CARS)
        many = {f"k{number}": ["x"] for number in range(41)}
        for rows, loose, failed, judge, kind, fields in (
            (many, ["x"], ["z"], none, TooMany, {"most": 40}),
            ({"k": ["a", "x", "a"]}, [], ["z"], none, NoTrip, {"name": "x"}),
            ({"k": ["a"], "l": ["a", "x"]}, [], ["z"], none, Twice, {"name": "a"}),
            ({"k": ["a"]}, ["b", "a"], ["z"], none, Twice, {"name": "a"}),
            ({"k": ["a"]}, ["b", "y"], ["z"], none, NoTrip, {"name": "y"}),
            ({"k": ["a"]}, ["b"], ["k", "z"], none, NoKey, {"name": "z"}),
            ({"k": ["a"], "l": []}, ["b"], ["k"], none, NoKey, {"name": "k"}),
            ({"k": ["a"], "z": []}, ["b"], ["k"], moon, NoPlace, {"name": "moon"}),
            ({"z": ["b", "a"], "k": []}, [], [], moon, NoKey, {"name": "z"}),
            ({"k": []}, [], [], DriverJudge(Rule(), [("k", "sun", 0, 0, 0)]), NoPlace, {"name": "sun"}),
        ):
            self.refused(kind, fields, rows, loose, failed, judge)

    def test_no_classes_of_its_own(self):
        self.assert_error_classes(module, {})


class Kept(Case):
    def test_changing_what_was_handed_in_or_told(self):
        rows, loose, failed = {"k": ["a", "b"], "l": ["d"]}, ["c"], []
        told = relink(TABLE, Judge(), rows, 0, loose, failed)
        before = copy.deepcopy(told)
        rows["k"].clear()
        rows["n"] = []
        loose.append("x")
        failed.append("k")
        self.assertEqual(told, before)
        told[0]["k"].append("q")
        told[1].append("q")
        self.assertEqual(told[2], before[2])
        told[2][0].append("q")
        told[2][1][0].clear()
        again = relink(TABLE, Judge(), {"k": ["a", "b"], "l": ["d"]}, 0, ["c"], [])
        self.assertEqual(again[2][:3], before[2][:3])
