import copy
import itertools
import random

from fleetpath import judges as module
from fleetpath.errors import LIMIT, BadName, BadNumber, NoPlace, NoTrip, TooMany, Twice
from fleetpath.hours import AllOf, Pause, Rule, Shift, Span, Work
from fleetpath.judges import CarJudge, DriverJudge, Judge, NoKey
from fleetpath.roads import Roads
from fleetpath.trips import Table
from tests.helper import (
    Case, cars_refusal, drivers_refusal, outcome, random_judge, random_names, random_office,
)

# From h the block of a b is 16 minutes long, and its sheet goes from 7 to 28; there is no way to in, none from out.
PLACES = ["h", "p", "out", "in"]
WAYS = [("h", "p", 3), ("p", "h", 4), ("h", "out", 1), ("in", "h", 1)]
TRIPS = [
    ("a", "p", "p", 10, 15, 2), ("b", "p", "p", 20, 24, 5), ("c", "h", "h", 40, 41, 0),
    ("o", "out", "out", 50, 51, 0), ("i", "in", "in", 60, 61, 0),
]
TABLE = Table(Roads(PLACES, WAYS), TRIPS)
BOUNDS = (-1, LIMIT + 1, -(10 ** 299), 10 ** 299)


def car(name="k", seats=LIMIT, reach=LIMIT):
    return (name, seats, reach)


def driver(name="k", home="h", ended=-LIMIT, rest=0, last=LIMIT):
    return (name, home, ended, rest, last)


def car_judge(seats=LIMIT, reach=LIMIT, home="h"):
    return CarJudge(home, [car("other", 0, 0), car("k", seats, reach)])


def driver_judge(rule=None, home="h", ended=-LIMIT, rest=0, last=LIMIT):
    return DriverJudge(rule or Rule(), [driver("other", "moon"), driver("k", home, ended, rest, last)])


class Errors(Case):
    def test_classes(self):
        self.assert_error_classes(module, {"NoKey": ["name"]})
        for kind in (CarJudge, DriverJudge):
            self.assertEqual(kind.__bases__, (Judge,))


class Stands(Case):
    def assert_stands(self, expected, judge, names):
        self.assertIs(judge.stands(TABLE, "k", names), expected)

    def test_the_plain_judge(self):
        for names, stands in (
            ([], True), (["a"], True), (["a", "b"], True), (["b", "a"], False), (["a", "a"], False),
            (["a", "b", "c"], True), (["a", "c", "b"], False), (["o"], True), (["o", "i"], False),
        ):
            self.assert_stands(stands, Judge(), names)

    def test_the_gap_at_its_edge(self):
        for start, stands in ((18, False), (19, True), (20, True)):
            trips = TRIPS[:1] + [("d", "h", "h", start, 30, 0)]
            table = Table(Roads(PLACES, WAYS), trips)
            for judge in (Judge(), car_judge(), driver_judge()):
                self.assertIs(judge.stands(table, "k", ["a", "d"]), stands)

    def test_a_cars_reach_and_seats_at_their_edges(self):
        for seats, reach, stands in ((5, 16, True), (4, 16, False), (5, 15, False), (6, 17, True), (0, 0, False)):
            self.assert_stands(stands, car_judge(seats, reach), ["a", "b"])
        for seats, reach, stands in ((2, 12, True), (1, 12, False), (2, 11, False)):
            self.assert_stands(stands, car_judge(seats, reach), ["a"])
        self.assert_stands(True, car_judge(0, 1), ["c"])

    def test_a_drivers_hours_at_their_edges(self):
        for ended, rest, last, stands in (
            (7, 0, 28, True), (8, 0, 28, False), (7, 0, 27, False), (6, 1, 28, True), (6, 2, 28, False),
            (-LIMIT, LIMIT, 28, True),
        ):
            self.assert_stands(stands, driver_judge(None, "h", ended, rest, last), ["a", "b"])

    def test_a_drivers_rule_at_its_edge(self):
        for stands, rules in (
            (True, [Span(21), Work(16), Pause(9, 6), Pause(5, 5), Shift(7, 28), AllOf([]), AllOf([Span(21)])]),
            (False, [Span(20), Work(15), Pause(8, 6), Pause(4, 5), Shift(8, 28), Shift(7, 27), AllOf([Work(15)])]),
        ):
            for rule in rules:
                self.assert_stands(stands, driver_judge(rule), ["a", "b"])

    def test_no_way_from_home_or_back(self):
        for judge in (car_judge(), driver_judge()):
            for names in (["i"], ["o"], ["a", "o"], ["b", "a"]):
                self.assert_stands(False, judge, names)
            self.assert_stands(True, judge, ["a", "c"])
        for judge in (car_judge(home="out"), driver_judge(home="out")):
            self.assert_stands(True, judge, ["o"])
            self.assert_stands(False, judge, ["a"])

    def test_the_row_without_trips(self):
        never = AllOf([Span(-1), Work(-1), Pause(-1, 1), Shift(1, 0)])
        for judge in (Judge(), car_judge(0, 0), driver_judge(never, "out", LIMIT, LIMIT, 0)):
            self.assert_stands(True, judge, [])

    def test_each_key_for_itself(self):
        judge = CarJudge("h", [car("x", 5, 16), car("y", 4, 16), car("z", 5, 15)])
        self.assertEqual([judge.stands(TABLE, key, ["a", "b"]) for key in "xyz"], [True, False, False])
        judge = DriverJudge(Span(21), [driver("x"), driver("y", ended=8), driver("z", "p", 10, 0, 24)])
        self.assertEqual([judge.stands(TABLE, key, ["a", "b"]) for key in "xyz"], [True, False, True])

    def test_against_plain_reckoning(self):
        source = random.Random(72)
        seen = []
        for _ in range(1500):
            office = random_office(source, most_ways=14, count=4, latest=30)
            asked = random_judge(source, office, ["k", "l"], strangers=0.1)
            names = random_names(source, office)
            before = list(names)
            for key in ("k", "l", "m"):
                refusal = asked.refusal(office, key, names)
                told = outcome(asked.judge.stands, office.table, key, names)
                seen.append(refusal[0] if refusal else told)
                self.assertEqual(told, refusal or asked.may_drive(office, key, names))
            self.assertEqual(names, before)
        for kind in (True, False, NoKey, NoPlace, NoTrip):
            self.assertGreater(seen.count(kind), 50)


class Places(Case):
    def test_of_each_judge(self):
        self.assertIsNone(Judge().place_of("anybody"))
        self.assertIsNone(Judge().place_of(""))
        self.assertEqual(car_judge(home="p").place_of("k"), "p")
        self.assertEqual(car_judge(home="A b\n").place_of("other"), "A b\n")
        judge = DriverJudge(Span(-1), [driver("x", "p"), driver("y", "moon")])
        self.assertEqual([judge.place_of(key) for key in "xy"], ["p", "moon"])

    def test_refused(self):
        for judge in (car_judge(), driver_judge(), CarJudge("h", []), DriverJudge(Rule(), [])):
            for key in ("x", "", "K", "h"):
                self.assert_refused(NoKey, {"name": key}, judge.place_of, key)


class Refused(Case):
    def test_nothing_is_looked_at_but_the_lists(self):
        CarJudge("moon", [])
        CarJudge("A b\n", [car()])
        DriverJudge(Rule(), [driver(home="moon"), driver("l", "A b\n")])

    def test_lists_of_forty_and_forty_one(self):
        makers = ((lambda cars: CarJudge("h", cars), car), (lambda drivers: DriverJudge(Rule(), drivers), driver))
        for make, one in makers:
            judge = make([one(f"k{number}") for number in range(40)])
            self.assertTrue(judge.stands(TABLE, "k39", ["a", "b"]))
            self.assert_refused(TooMany, {"most": 40}, make, [one(f"k{number}") for number in range(41)])
            self.assert_refused(TooMany, {"most": 40}, make, [one("A")] * 41)

    def test_cars(self):
        for cars, kind, fields in (
            ([car("A", -1, -2)], BadName, {"name": "A"}), ([car(), car("")], BadName, {"name": ""}),
            ([car(), car(), car("A")], Twice, {"name": "k"}), ([car("k", -1, -2)], BadNumber, {"value": -1}),
            ([car("k", 1, -2), car("A")], BadNumber, {"value": -2}),
        ):
            self.assert_refused(kind, fields, CarJudge, "moon", cars)
        for value in BOUNDS:
            self.assert_refused(BadNumber, {"value": value}, CarJudge, "h", [car("k", value)])
            self.assert_refused(BadNumber, {"value": value}, CarJudge, "h", [car("k", 0, value)])

    def test_drivers(self):
        low = -LIMIT - 1
        for drivers, kind, fields in (
            ([driver("A", "moon", low)], BadName, {"name": "A"}), ([driver(), driver("a b")], BadName, {"name": "a b"}),
            ([driver(), driver(), driver("A")], Twice, {"name": "k"}),
            ([driver("k", "h", low, -2, -3)], BadNumber, {"value": low}),
            ([driver("k", "h", 0, -2, -3)], BadNumber, {"value": -2}),
            ([driver("k", "moon", 0, 0, -3), driver("A")], BadNumber, {"value": -3}),
        ):
            self.assert_refused(kind, fields, DriverJudge, Rule(), drivers)

    def test_lists_at_random(self):
        source = random.Random(45)
        names, numbers = ["k", "l", "m", "n", "o", "A", ""], [0, 1, LIMIT] * 5 + [-LIMIT] + list(BOUNDS)
        for _ in range(400):
            cars = [
                (source.choice(names), source.choice(numbers), source.choice(numbers))
                for _ in range(source.randint(0, 3))
            ]
            told = outcome(CarJudge, "moon", cars)
            self.assertEqual(told if isinstance(told, tuple) else None, cars_refusal(cars))
            drivers = [(name, "moon", one, other, source.choice(numbers)) for name, one, other in cars]
            told = outcome(DriverJudge, Span(-1), drivers)
            self.assertEqual(told if isinstance(told, tuple) else None, drivers_refusal(drivers))

    def test_no_key_then_no_place_then_no_trip(self):
        for judge in (car_judge(home="moon"), driver_judge(home="moon")):
            for names in ([], ["a"], ["x"], ["b", "a"]):
                self.assert_refused(NoKey, {"name": "z"}, judge.stands, TABLE, "z", names)
                self.assert_refused(NoPlace, {"name": "moon"}, judge.stands, TABLE, "k", names)
        for judge in (car_judge(0, 0), driver_judge(Span(-1), "out"), car_judge(), driver_judge()):
            self.assert_refused(NoKey, {"name": "z"}, judge.stands, TABLE, "z", ["x"])
            for names in (["x"], ["a", "x", "y"], ["b", "a", "x"], ["i", "x", "a"]):
                self.assert_refused(NoTrip, {"name": "x"}, judge.stands, TABLE, "k", names)
        for names in (["x"], ["a", "x", "y"], ["b", "a", "x"], ["i", "x", "a"]):
            self.assert_refused(NoTrip, {"name": "x"}, Judge().stands, TABLE, "anybody", names)

    def test_the_home_of_another_driver_is_not_looked_at(self):
        judge = DriverJudge(Rule(), [driver("x", "moon"), driver("y"), driver("z", "sun")])
        self.assertTrue(judge.stands(TABLE, "y", ["a"]))
        self.assert_refused(NoPlace, {"name": "moon"}, judge.stands, TABLE, "x", [])
        self.assert_refused(NoPlace, {"name": "sun"}, judge.stands, TABLE, "z", ["a"])

    def test_a_home_that_another_table_has(self):
        other = Table(Roads(["moon"], []), [("a", "moon", "moon", 0, 1, 0)])
        for judge in (car_judge(home="moon"), driver_judge(home="moon")):
            self.assert_refused(NoPlace, {"name": "moon"}, judge.stands, TABLE, "k", ["a"])
            self.assertTrue(judge.stands(other, "k", ["a"]))


class Kept(Case):
    def test_changing_what_was_handed_in(self):
        cars, drivers, rules = [car("k", 5, 16)], [driver("k", "p", 10)], [Span(14)]
        judges = [CarJudge("h", cars), DriverJudge(AllOf(rules), drivers)]
        before = copy.deepcopy((cars, drivers))
        names = ["a", "b"]
        for judge in judges:
            self.assertTrue(judge.stands(TABLE, "k", names))
        self.assertEqual((cars, drivers), before)
        cars[0] = car("k", 0, 0)
        cars.append(car("l"))
        drivers[0] = driver("k", "h", LIMIT)
        drivers.append(driver("l"))
        rules.append(Span(-1))
        for judge, place in zip(judges, ("h", "p")):
            self.assertTrue(judge.stands(TABLE, "k", names))
            self.assertEqual(judge.place_of("k"), place)
            self.assert_refused(NoKey, {"name": "l"}, judge.stands, TABLE, "l", [])
            self.assert_refused(NoKey, {"name": "l"}, judge.place_of, "l")
        self.assertEqual(names, ["a", "b"])

    def test_asking_in_any_order(self):
        judge = CarJudge("h", [car("x", 5, 16), car("y", 2, 99)])
        asked = [("x", ["a", "b"], True), ("y", ["a", "b"], False), ("y", ["a"], True), ("x", ["c", "a"], False)]
        for order in itertools.permutations(asked):
            for key, names, stands in order:
                self.assertIs(judge.stands(TABLE, key, names), stands)
