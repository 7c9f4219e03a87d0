import copy
import itertools
import random

from fleetpath import giving
from fleetpath.blocks import Unlinked, block_length
from fleetpath.errors import LIMIT, BadName, BadNumber, NoPlace, NoTrip, NoWay, TooMany, Twice
from fleetpath.giving import TooFew, check_cars, dealt, fit_cars, give_cars
from fleetpath.roads import Roads
from fleetpath.trips import Table
from tests.helper import Case, blocks_refusal, can_be_dealt, car_fits, outcome, random_names, random_office, subsets

PLACES = ["h", "p", "far"]
WAYS = [("h", "p", 3), ("p", "h", 4), ("far", "h", 1)]
TRIPS = [
    ("a", "p", "p", 10, 15, 2), ("b", "p", "p", 20, 24, 5), ("c", "h", "h", 40, 41, 0), ("f", "far", "far", 1, 2, 0),
    ("g", "p", "p", 30, 31, 1),
]
TABLE = Table(Roads(PLACES, WAYS), TRIPS)
CAR = ("car", 4, 100)


def forty(make):
    return [make(number) for number in range(40)]


class Errors(Case):
    def test_classes(self):
        self.assert_error_classes(giving, {"TooFew": ["lefts", "rights"]})


class Dealt(Case):
    def assert_dealt(self, rows):
        """Whether all lefts have a right of their own; else the refusal is its own paper."""
        before = copy.deepcopy(rows)
        try:
            told = dealt(rows)
        except TooFew as error:
            self.assert_too_few(rows, error)
            self.assertEqual(rows, before)
            return False
        self.assertIs(type(told), dict)
        self.assertEqual(set(told), set(rows))
        for left, right in told.items():
            self.assertIn(right, rows[left])
        self.assertEqual(len(set(told.values())), len(told))
        self.assertEqual(rows, before)
        return True

    def test_of_no_rows(self):
        self.assertEqual(dealt({}), {})

    def test_known_dealings(self):
        self.assertEqual(dealt({"a": ["x", "y"], "b": ["x"]}), {"a": "y", "b": "x"})
        self.assertEqual(dealt({1: [2, 2], 2: [1, 2]}), {1: 2, 2: 1})

    def test_known_papers(self):
        self.assert_refused(TooFew, {"lefts": ["a"], "rights": []}, dealt, {"a": [], "b": ["x"]})
        with self.assertRaises(TooFew) as caught:
            dealt({0: ["x", "x"], 1: ["y", "z"], 2: ["x"]})
        self.assertEqual((sorted(caught.exception.lefts), caught.exception.rights), ([0, 2], ["x"]))

    def test_all_rows_of_four_lefts_and_three_rights(self):
        for lists in itertools.product(list(subsets("xyz")), repeat=4):
            rows = {left: list(listed) for left, listed in enumerate(lists)}
            self.assertFalse(self.assert_dealt(rows))

    def test_all_rows_of_three_lefts_and_three_rights(self):
        for lists in itertools.product(list(subsets((-1, 0, 7))), repeat=3):
            rows = {left: list(listed) for left, listed in zip("a ~", lists)}
            self.assertIs(self.assert_dealt(rows), can_be_dealt(rows))

    def test_random_rows_with_doubles(self):
        source = random.Random(46)
        seen = []
        for _ in range(500):
            rows = {
                left: source.choices(range(5), k=source.randint(0, 4)) for left in range(source.randint(0, 5))
            }
            seen.append(self.assert_dealt(rows))
            self.assertIs(seen[-1], can_be_dealt(rows))
        self.assertEqual(set(seen), {True, False})

    def test_great_rows(self):
        self.assertTrue(self.assert_dealt({left: list(range(40)) for left in range(40)}))
        self.assertFalse(self.assert_dealt({left: list(range(39)) for left in range(40)}))

    def test_too_great_rows_first(self):
        for rows in (
            {left: [] for left in range(41)}, {left: [left] for left in range(41)},
            {"a": [], "b": ["x"] * 41}, {"a": ["x"] * 41},
        ):
            self.assert_refused(TooMany, {"most": 40}, dealt, rows)


class Cars(Case):
    def test_let_by(self):
        for cars in (
            [], [CAR], [("c", 0, 0)], [("c", LIMIT, LIMIT)], forty(lambda number: (f"c{number}", number, number)),
        ):
            self.assertIsNone(check_cars(cars))

    def test_forty_one(self):
        cars = forty(lambda number: (f"c{number}", 1, 1))
        self.assert_refused(TooMany, {"most": 40}, check_cars, cars + [("c40", 1, 1)])
        self.assert_refused(TooMany, {"most": 40}, check_cars, [("", -1, -1)] + cars)

    def test_each_refusal(self):
        for name in ("", "x" * 13, "A", "a b", "a\n"):
            self.assert_refused(BadName, {"name": name}, check_cars, [CAR, (name, 1, 1)])
        self.assert_refused(Twice, {"name": "car"}, check_cars, [CAR, ("c", 1, 1), ("car", 1, 1)])
        for value in (-1, LIMIT + 1, -(10 ** 299), 10 ** 299):
            self.assert_refused(BadNumber, {"value": value}, check_cars, [CAR, ("c", value, 1)])
            self.assert_refused(BadNumber, {"value": value}, check_cars, [CAR, ("c", 1, value)])

    def test_several_at_once(self):
        self.assert_refused(BadName, {"name": "A"}, check_cars, [("A", -1, -2)])
        self.assert_refused(BadName, {"name": "A"}, check_cars, [CAR, ("A", 1, 1), CAR])
        self.assert_refused(Twice, {"name": "car"}, check_cars, [CAR, ("car", -1, -2)])
        self.assert_refused(BadNumber, {"value": -1}, check_cars, [("c", -1, -2)])
        self.assert_refused(BadNumber, {"value": -2}, check_cars, [("c", 1, -2), ("A", -1, -1)])
        self.assert_refused(BadNumber, {"value": -1}, check_cars, [("c", -1, 1), ("c", 1, 1)])
        self.assert_refused(Twice, {"name": "car"}, check_cars, [CAR, CAR, ("A", 1, 1)])


class Fits(Case):
    def test_seats_at_the_edge(self):
        for seats, fit in ((4, False), (5, True), (6, True), (0, False), (LIMIT, True)):
            for names in (["b"], ["a", "b"], ["a", "b", "c"]):
                told = fit_cars(TABLE, "h", [names], [("x", seats, 1000)])
                self.assertEqual(told, [["x"] if fit else []])

    def test_reach_at_the_edge(self):
        self.assertEqual(block_length(TABLE, "h", ["a", "b"]), 16)
        for reach, fit in ((15, False), (16, True), (17, True), (0, False), (LIMIT, True)):
            self.assertEqual(fit_cars(TABLE, "h", [["a", "b"]], [("x", 9, reach)]), [["x"] if fit else []])

    def test_the_block_without_trips(self):
        cars = [("x", 0, 0), ("y", 1, 1)]
        self.assertEqual(fit_cars(TABLE, "h", [[]], cars), [["x", "y"]])
        self.assertEqual(fit_cars(TABLE, "h", [[], ["c"], []], cars), [["x", "y"], ["y"], ["x", "y"]])

    def test_the_cars_order(self):
        cars = [("z", 9, 99), ("b", 1, 99), ("10", 9, 99), ("a", 9, 5), ("m", 5, 99)]
        self.assertEqual(fit_cars(TABLE, "h", [["b"], ["c"]], cars), [["z", "10", "m"], ["z", "b", "10", "a", "m"]])

    def test_no_cars_and_no_blocks(self):
        self.assertEqual(fit_cars(TABLE, "h", [["a"], []], []), [[], []])
        self.assertEqual(fit_cars(TABLE, "moon", [], [CAR]), [])
        self.assertEqual(fit_cars(TABLE, "moon", [], []), [])

    def test_the_same_trips_in_two_blocks(self):
        self.assertEqual(fit_cars(TABLE, "h", [["a"], ["a"]], [CAR]), [["car"], ["car"]])


class Gives(Case):
    def test_known_givings(self):
        cars = [("x", 5, 99), ("y", 2, 99), ("z", 0, 1)]
        self.assertEqual(give_cars(TABLE, "h", [["a"], ["b"]], cars), ["y", "x"])
        self.assertEqual(give_cars(TABLE, "h", [["a"], ["b"], ["c"]], cars), ["y", "x", "z"])
        self.assertEqual(give_cars(TABLE, "h", [[], ["b"], ["a"]], cars), ["z", "x", "y"])

    def test_no_blocks(self):
        self.assertEqual(give_cars(TABLE, "moon", [], [CAR]), [])
        self.assertEqual(give_cars(TABLE, "moon", [], []), [])

    def test_too_few(self):
        self.assert_refused(TooFew, {"lefts": [1], "rights": []}, give_cars, TABLE, "h", [["a"], ["b"]], [CAR])
        self.assert_refused(TooFew, {"lefts": [0], "rights": []}, give_cars, TABLE, "h", [[]], [])
        with self.assertRaises(TooFew) as caught:
            give_cars(TABLE, "h", [["a"], [], ["c"]], [("x", 2, 99), ("y", 0, 1)])
        error = caught.exception
        self.assertEqual((sorted(error.lefts), sorted(error.rights)), ([0, 1, 2], ["x", "y"]))

    def test_forty_blocks_and_forty_cars(self):
        cars = forty(lambda number: (f"c{number}", number, 99))
        roads = Roads(["h"], [])
        table = Table(roads, forty(lambda number: (f"t{number}", "h", "h", number, number + 1, number)))
        told = give_cars(table, "h", forty(lambda number: [f"t{39 - number}"]), cars)
        self.assertEqual(told, forty(lambda number: f"c{39 - number}"))


class Refusals(Case):
    def assert_refused_by_both(self, kind, fields, *args):
        for ask in (fit_cars, give_cars):
            self.assert_refused(kind, fields, ask, *args)

    def test_cars_first(self):
        great = [["a"]] * 41
        for cars, kind, fields in (
            ([("A", 0, 0)], BadName, {"name": "A"}),
            ([CAR, CAR], Twice, {"name": "car"}),
            ([("c", -3, 0)], BadNumber, {"value": -3}),
            ([("c", 0, -3)], BadNumber, {"value": -3}),
            ([CAR] * 41, TooMany, {"most": 40}),
        ):
            for blocks in (great, [["x"]], [["a"]], []):
                self.assert_refused_by_both(kind, fields, TABLE, "moon", blocks, cars)

    def test_forty_one_blocks(self):
        cars = forty(lambda number: (f"c{number}", 0, 0))
        self.assertEqual(len(give_cars(TABLE, "h", [[]] * 40, cars)), 40)
        self.assert_refused_by_both(TooMany, {"most": 40}, TABLE, "h", [[]] * 41, cars)
        self.assert_refused_by_both(TooMany, {"most": 40}, TABLE, "moon", [["x"]] * 41, [])

    def test_block_by_block(self):
        self.assert_refused_by_both(NoPlace, {"name": "moon"}, TABLE, "moon", [[], ["x"]], [])
        self.assert_refused_by_both(NoTrip, {"name": "x"}, TABLE, "h", [["a"], ["x"], ["b", "a"]], [])
        self.assert_refused_by_both(
            Unlinked, {"first": "b", "second": "a"}, TABLE, "h", [["a"], ["b", "a"], ["f"], ["x"]], []
        )
        self.assert_refused_by_both(NoWay, {"origin": "h", "goal": "far"}, TABLE, "h", [["f"], ["x"]], [])
        lame = Table(Roads(["h", "p"], [("h", "p", 1)]), [("t", "h", "p", 0, 5, 0)])
        self.assert_refused_by_both(NoWay, {"origin": "p", "goal": "h"}, lame, "h", [["t"], ["x"]], [])

    def test_against_a_plain_search(self):
        source = random.Random(45)
        seen = []
        for _ in range(600):
            office = random_office(source, most_ways=14)
            home = source.choice(office.places * 4 + ["moon"])
            rows = [row for row in office.rows() if office.block_refusal(home, row) is None] or [[]]
            blocks = [source.choice(rows) for _ in range(source.randint(0, 3))]
            if source.random() < 0.2:
                blocks.append(random_names(source, office))
            names = source.sample(["a", "b", "c", "d"], source.randint(0, 4))
            if source.random() < 0.1:
                names.append(source.choice(["A", "a"]))
            cars = [(name, source.randint(-(source.random() < 0.05), 9), source.randint(0, 25)) for name in names]
            before = copy.deepcopy((blocks, cars))
            seen.append(self.assert_as_plain(office, home, blocks, cars))
            self.assertEqual((blocks, cars), before)
        self.assertEqual(set(seen), {"refused", "given", "too few"})
        self.assertGreater(seen.count("given"), 100)

    def assert_as_plain(self, office, home, blocks, cars):
        refusal = blocks_refusal(office, home, blocks, cars)
        if refusal:
            self.assertEqual(outcome(fit_cars, office.table, home, blocks, cars), refusal)
            self.assertEqual(outcome(give_cars, office.table, home, blocks, cars), refusal)
            return "refused"
        fit = [[car[0] for car in cars if car_fits(office, home, names, car)] for names in blocks]
        self.assertEqual(fit_cars(office.table, home, blocks, cars), fit)
        rows = dict(enumerate(fit))
        if not can_be_dealt(rows):
            with self.assertRaises(TooFew) as caught:
                give_cars(office.table, home, blocks, cars)
            self.assert_too_few(rows, caught.exception)
            return "too few"
        told = give_cars(office.table, home, blocks, cars)
        self.assertEqual((type(told), len(told)), (list, len(blocks)))
        for name, names in zip(told, fit):
            self.assertIn(name, names)
        self.assertEqual(len(set(told)), len(told))
        return "given"


class Kept(Case):
    def test_what_is_told_is_the_askers_own(self):
        cars = [("x", 9, 99), ("y", 9, 99)]
        blocks = [["a"], ["a"], []]
        told = fit_cars(TABLE, "h", blocks, cars)
        told[0].append("q")
        self.assertEqual(told[1:], [["x", "y"], ["x", "y"]])
        cars.append(("z", 9, 99))
        self.assertEqual(told, [["x", "y", "q"], ["x", "y"], ["x", "y"]])
        self.assertEqual(fit_cars(TABLE, "h", blocks, cars), [["x", "y", "z"]] * 3)
        give_cars(TABLE, "h", blocks, cars).clear()
        self.assertEqual(sorted(give_cars(TABLE, "h", blocks, cars)), ["x", "y", "z"])
        self.assertEqual((blocks, cars), ([["a"], ["a"], []], [("x", 9, 99), ("y", 9, 99), ("z", 9, 99)]))

    def test_a_paper_stays_as_it_was(self):
        rows = {"a": ["x"], "b": ["x"]}
        with self.assertRaises(TooFew) as caught:
            dealt(rows)
        rows["a"].append("y")
        rows["c"] = []
        error = caught.exception
        self.assertEqual((sorted(error.lefts), error.rights), (["a", "b"], ["x"]))
        error.rights.append("z")
        error.lefts.clear()
        self.assertEqual(rows, {"a": ["x", "y"], "b": ["x"], "c": []})
        del rows["c"]
        self.assertEqual(dealt(rows), {"a": "y", "b": "x"})
        dealt(rows).clear()
        self.assertEqual(dealt(rows), {"a": "y", "b": "x"})
