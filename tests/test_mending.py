import copy
import random

from fleetpath import mending as module
from fleetpath.errors import LIMIT, NoPlace, NoTrip, TooMany, Twice
from fleetpath.hours import Rule
from fleetpath.judges import CarJudge, DriverJudge, Judge, NoKey
from fleetpath.mending import BIG, begun, in_time, mend, pieces
from fleetpath.roads import Roads
from fleetpath.trips import Table
from tests.helper import (
    AnyKeys, Case, dealings, dealt_rows, plain_begun, plain_in_time, plain_pieces, random_judge, random_office, worth,
)

PLACES = ["h", "p", "out", "in"]
WAYS = [("h", "p", 3), ("p", "h", 4), ("h", "out", 1), ("in", "h", 1)]
TRIPS = [
    ("a", "p", "p", 10, 15, 2), ("b", "p", "p", 20, 24, 5), ("c", "h", "h", 40, 41, 0), ("d", "h", "p", 10, 30, 0),
    ("o", "out", "out", 50, 51, 0), ("i", "in", "in", 60, 61, 0),
]
TABLE = Table(Roads(PLACES, WAYS), TRIPS)
CARS = [("k", 9, 99), ("l", 9, 99), ("m", 9, 99)]
DRIVERS = [(name, "h", -LIMIT, 0, LIMIT) for name in "klm"]


def straight(count, minutes=1):
    """A table of as many trips, one a tenth minute, at one place."""
    trips = [(f"t{number}", "h", "h", 10 * number + 10, 10 * number + 10 + minutes, 0) for number in range(count)]
    return Table(Roads(["h"], []), trips)


class Begun(Case):
    def test_at_the_start_one_earlier_and_one_later(self):
        for now, had in (
            (9, []), (10, ["a"]), (11, ["a"]), (19, ["a"]), (20, ["a", "b"]), (39, ["a", "b"]), (40, ["a", "b", "c"]),
            (-LIMIT, []), (LIMIT, ["a", "b", "c"]),
        ):
            self.assertEqual(begun(TABLE, ["a", "b", "c"], now), had)

    def test_an_earlier_trip_behind_a_later_one(self):
        for now, had in ((9, []), (10, []), (20, ["b", "a"]), (39, ["b", "a"]), (40, ["b", "a", "c"])):
            self.assertEqual(begun(TABLE, ["b", "a", "c"], now), had)
        self.assertEqual(begun(TABLE, ["a", "c", "b"], 20), ["a"])

    def test_no_trips_and_a_trip_twice(self):
        self.assertEqual(begun(TABLE, [], 99), [])
        self.assertEqual(begun(TABLE, ["a", "a"], 10), ["a", "a"])

    def test_refused(self):
        for names in (["x"], ["a", "x", "y"], ["b", "a", "x"], ["c", "x"]):
            for now in (-1, 0, 10, 99):
                self.assert_refused(NoTrip, {"name": "x"}, begun, TABLE, names, now)


class Pieces(Case):
    def test_known_ones(self):
        for names, told in (
            ([], []), (["a"], [["a"]]), (["a", "b", "c"], [["a", "b", "c"]]), (["b", "a"], [["b"], ["a"]]),
            (["a", "d", "c"], [["a"], ["d", "c"]]), (["a", "b", "d", "c"], [["a", "b"], ["d", "c"]]),
            (["a", "b", "o", "i"], [["a", "b", "o"], ["i"]]), (["c", "b", "a"], [["c"], ["b"], ["a"]]),
            (["a", "a"], [["a"], ["a"]]),
        ):
            self.assertEqual(pieces(TABLE, names), told)

    def test_the_gap_at_its_edge(self):
        for start, told in ((18, [["a"], ["e"]]), (19, [["a", "e"]])):
            table = Table(Roads(PLACES, WAYS), TRIPS + [("e", "h", "h", start, 30, 0)])
            self.assertEqual(pieces(table, ["a", "e"]), told)

    def test_refused(self):
        for names in (["x"], ["a", "x", "y"], ["b", "a", "x"], ["o", "i", "x"]):
            self.assert_refused(NoTrip, {"name": "x"}, pieces, TABLE, names)

    def test_against_plain_reckoning(self):
        source = random.Random(73)
        for _ in range(300):
            office = random_office(source, count=6)
            names = source.sample(list(office.trips), source.randint(0, 6))
            before = list(names)
            now = source.randint(-1, 26)
            self.assertEqual(begun(office.table, names, now), plain_begun(office, names, now))
            self.assertEqual(pieces(office.table, names), plain_pieces(office, names))
            self.assertEqual(names, before)


class InTime(Case):
    """The trip b starts at 20 in p, which is three minutes from h; a finishes there at 15."""

    def assert_in_time(self, expected, judge, had, first, now):
        self.assertIs(in_time(TABLE, judge, "k", had, first, now), expected)

    def test_with_a_trip_begun_that_finishes_ahead_of_now(self):
        for now, comes in ((15, True), (16, True), (20, True), (21, False), (LIMIT, False)):
            self.assert_in_time(comes, Judge(), ["a"], "b", now)
        for now, comes in ((36, True), (37, False), (41, False)):
            self.assert_in_time(comes, Judge(), ["a"], "c", now)
            self.assert_in_time(comes, Judge(), ["a", "b"], "c", now)

    def test_with_a_trip_begun_that_finishes_behind_now(self):
        for finish, comes in ((35, True), (36, True), (37, False)):
            table = Table(Roads(PLACES, WAYS), TRIPS + [("e", "h", "p", 1, finish, 0)])
            for now in (-LIMIT, 1, 20):
                self.assertIs(in_time(table, Judge(), "k", ["e"], "c", now), comes)

    def test_only_the_last_trip_begun_counts(self):
        self.assert_in_time(True, Judge(), ["i", "a"], "b", 16)
        self.assert_in_time(True, Judge(), ["x", "", "a"], "b", 16)
        self.assert_in_time(False, Judge(), ["a", "i"], "b", 16)

    def test_with_none_begun_and_a_place(self):
        for judge in (CarJudge("h", CARS), DriverJudge(Rule(), DRIVERS)):
            for now, comes in ((16, True), (17, True), (18, False), (-LIMIT, True), (LIMIT, False)):
                self.assert_in_time(comes, judge, [], "b", now)
            for now, comes in ((40, True), (41, False)):
                self.assert_in_time(comes, judge, [], "c", now)

    def test_with_none_begun_and_no_place(self):
        for first, start in (("b", 20), ("i", 60)):
            for now, comes in ((start - 1, True), (start, True), (start + 1, False)):
                self.assert_in_time(comes, Judge(), [], first, now)

    def test_without_a_way(self):
        self.assert_in_time(False, CarJudge("h", CARS), [], "i", -LIMIT)
        self.assert_in_time(False, Judge(), ["a"], "i", -LIMIT)
        self.assert_in_time(False, Judge(), ["o"], "i", -LIMIT)
        self.assert_in_time(True, CarJudge("in", CARS), [], "i", 60)

    def test_the_hours_and_the_reach_are_not_looked_at(self):
        self.assert_in_time(True, CarJudge("h", [("k", 0, 0)]), [], "b", 17)
        self.assert_in_time(True, DriverJudge(Rule(), [("k", "h", LIMIT, 9, 0)]), [], "b", 17)

    def test_refused(self):
        moon = CarJudge("moon", CARS)
        for had, first, kind, name in (
            (["a", "x"], "y", NoTrip, "x"), (["a"], "y", NoTrip, "y"), ([], "y", NoTrip, "y"),
            (["x"], "b", NoTrip, "x"),
        ):
            for judge in (Judge(), moon, CarJudge("h", []), DriverJudge(Rule(), [])):
                self.assert_refused(kind, {"name": name}, in_time, TABLE, judge, "k", had, first, 0)
        for judge in (CarJudge("moon", []), DriverJudge(Rule(), [])):
            self.assert_refused(NoKey, {"name": "k"}, in_time, TABLE, judge, "k", [], "b", 0)
            self.assertTrue(in_time(TABLE, judge, "k", ["a"], "b", 0))
        for judge in (moon, DriverJudge(Rule(), [("k", "moon", 0, 0, 0)])):
            self.assert_refused(NoPlace, {"name": "moon"}, in_time, TABLE, judge, "k", [], "b", LIMIT)
            self.assertTrue(in_time(TABLE, judge, "k", ["a"], "b", 0))

    def test_against_plain_reckoning(self):
        source = random.Random(731)
        seen = []
        for _ in range(600):
            office = random_office(source, most_ways=14, count=4)
            asked = random_judge(source, office, ["k", "l"], strangers=0)
            names = source.sample(list(office.trips), len(office.trips))
            had, first, now = names[1:source.randint(1, 3)], names[0], source.randint(-5, 30)
            told = in_time(office.table, asked.judge, "k", had, first, now)
            self.assertIs(told, plain_in_time(office, asked, "k", had, first, now))
            seen.append(told)
        self.assertGreater(min(seen.count(True), seen.count(False)), 100)


class Mended(Case):
    def look(self, office, asked, rows, now, loose, failed):
        told = mend(office.table, asked.judge, rows, now, loose, failed)
        things, costs = self.assert_mended(told, office, asked, rows, now, loose, failed)
        best = min(worth(things, dealt_rows(office, rows, now, things, dealt)) for dealt in dealings(costs))
        self.assertEqual(worth(things, told), best)
        return told[2] != []

    def test_against_a_plain_search(self):
        self.assert_mendings(mend, random.Random(74), 1200, 4, self.look)

    def test_things_in_their_order(self):
        told = mend(TABLE, Judge(), {"k": ["a", "b", "d"], "l": [], "m": ["c"]}, 0, ["o", "i"], [])
        self.assertEqual(told[3][0], [["a", "b"], ["d"], ["c"], ["o"], ["i"]])
        self.assertEqual(told[3][2], {0: 2000, 1: 1000, 2: 1001, 3: 1000, 4: 1000})
        self.assertEqual(told[3][1], {
            0: {"k": 0, "l": 0, "m": 0}, 1: {"k": 0, "l": 0, "m": 0}, 2: {"k": 1, "l": 1, "m": 0},
            3: {"k": 0, "l": 0, "m": 0}, 4: {"k": 0, "l": 0, "m": 0},
        })
        self.assertEqual((set(told[0]["k"] + told[0]["l"] + told[0]["m"] + told[1])), set("abcdoi"))
        self.assertEqual(len(told[1]), 2)

    def test_nothing_gone_wrong(self):
        for judge in (Judge(), CarJudge("h", CARS), DriverJudge(Rule(), DRIVERS)):
            for now in (-5, 0, 10, 15, 23, 99):
                rows = {"k": ["a", "b"], "l": [], "m": ["d", "c"]}
                told = mend(TABLE, judge, rows, now, [], [])
                self.assertEqual(told[:3], (rows, [], []))
                for key in rows:
                    self.assertIsNot(told[0][key], rows[key])

    def test_no_keys_and_no_trips(self):
        self.assertEqual(mend(TABLE, Judge(), {}, 0, [], []), ({}, [], [], ([], {}, {}, {}, {}, {})))
        told = mend(TABLE, CarJudge("moon", []), {}, 0, ["b", "a"], [])
        self.assertEqual(told[:3], ({}, ["b", "a"], []))
        left = ([["b"], ["a"]], {0: {}, 1: {}}, {0: 1000, 1: 1000}, {0: None, 1: None}, {0: 1000, 1: 1000}, {})
        self.assertEqual(told[3], left)

    def test_a_key_under_way_keeps_its_tail(self):
        judge = CarJudge("h", CARS)
        self.assertEqual(mend(TABLE, judge, {"k": ["b"]}, 19, [], [])[:3], ({"k": ["b"]}, [], []))
        self.assertEqual(mend(TABLE, judge, {"k": []}, 19, ["b"], [])[:3], ({"k": []}, ["b"], []))
        self.assertEqual(mend(TABLE, judge, {"k": []}, 17, ["b"], [])[:3], ({"k": ["b"]}, [], []))
        told = mend(TABLE, judge, {"k": ["b"], "l": []}, 18, [], ["k"])
        self.assertEqual(told[:3], ({"k": [], "l": []}, ["b"], ["k"]))

    def test_in_time_to_the_first_trip_of_a_thing(self):
        judge = CarJudge("h", CARS)
        for now, row in ((7, ["a", "b"]), (8, [])):
            told = mend(TABLE, judge, {"k": ["a", "b"], "l": []}, now, [], ["k"])
            self.assertEqual((told[0], told[2]), ({"k": [], "l": row}, ["k"]))

    def test_only_the_first_piece_is_under_way(self):
        judge = CarJudge("h", CARS)
        told = mend(TABLE, judge, {"k": ["c", "b"]}, 18, [], [])
        self.assertEqual(told[3][1], {0: {"k": 0}, 1: {}})
        told = mend(TABLE, judge, {"k": ["c", "b"]}, 17, [], [])
        self.assertEqual(told[3][1], {0: {"k": 0}, 1: {"k": 0}})

    def test_a_tail_that_is_not_linked_behind_what_was_begun(self):
        table = Table(Roads(["h"], []), [("x", "h", "h", 0, 20, 0), ("y", "h", "h", 15, 30, 0)])
        told = mend(table, Judge(), {"k": ["x", "y"], "l": []}, 5, [], [])
        self.assertEqual(told[:3], ({"k": ["x"], "l": ["y"]}, [], ["k"]))
        self.assertEqual(told[3][1], {0: {"l": 1}})
        told = mend(table, Judge(), {"k": ["x", "y"]}, 5, [], [])
        self.assertEqual(told[:3], ({"k": ["x"]}, ["y"], ["k"]))

    def test_a_cut_tail_is_not_counted(self):
        told = mend(TABLE, Judge(), {"k": ["a", "b", "d"], "l": []}, 0, [], [])
        self.assertEqual((told[1], told[2]), ([], ["k"]))
        self.assertEqual(sorted([told[0]["k"], told[0]["l"]]), [["a", "b"], ["d"]])
        self.assertEqual(sum(told[3][4].values()) + sum(told[3][5].values()), 0)

    def test_reserves_go_ahead_of_keys_that_are_done(self):
        table = straight(3)
        told = mend(table, Judge(), {"k": ["t0"], "l": ["t1"], "m": []}, 10, ["t2"], [])
        self.assertEqual(told[3][1], {0: {"k": 2, "l": 0, "m": 1}, 1: {"k": 1, "l": 0, "m": 0}})
        self.assertEqual(told[:3], ({"k": ["t0"], "l": ["t1"], "m": ["t2"]}, [], []))
        told = mend(table, Judge(), {"k": ["t0"], "l": ["t1"], "m": []}, 10, ["t2"], ["m"])
        self.assertEqual(told[:3], ({"k": ["t0", "t2"], "l": ["t1"], "m": []}, [], ["k"]))

    def test_failed_keys_with_trips_begun_and_without(self):
        table = straight(4)
        rows = {"k": ["t0", "t1"], "l": ["t2"], "m": []}
        told = mend(table, Judge(), rows, 10, ["t3"], ["k"])
        self.assertEqual((told[0]["k"], told[1], len(told[2])), (["t0"], ["t3"], 1))
        self.assertEqual(sorted([told[0]["l"], told[0]["m"]]), [["t1"], ["t2"]])
        told = mend(table, Judge(), rows, 9, [], ["k", "m", "k"])
        self.assertEqual(told[:3], ({"k": [], "l": ["t0", "t1"], "m": []}, ["t2"], ["k", "l"]))
        told = mend(table, Judge(), rows, 10, ["t3"], ["k", "l", "m"])
        self.assertEqual(told[:3], ({"k": ["t0"], "l": [], "m": []}, ["t1", "t2", "t3"], ["k", "l"]))

    def test_changed_in_the_order_of_rows(self):
        rows = {"m": ["t0"], "l": ["t1"], "k": ["t2"]}
        told = mend(straight(3), Judge(), rows, 0, [], ["m", "k", "l"])
        self.assertEqual((told[1], told[2]), (["t0", "t1", "t2"], ["m", "l", "k"]))
        self.assertEqual(list(told[0]), ["m", "l", "k"])

    def test_keys_that_the_judge_alone_knows_get_nothing(self):
        told = mend(TABLE, CarJudge("h", CARS), {"k": ["d"]}, 10, ["a"], [])
        self.assertEqual(told[:3], ({"k": ["d"]}, ["a"], []))

    def test_trips_of_the_table_that_stand_nowhere(self):
        self.assertEqual(mend(TABLE, Judge(), {"k": ["a"]}, 0, [], [])[:3], ({"k": ["a"]}, [], []))

    def test_forty_keys_and_forty_trips(self):
        for size in (1, 2, 4):
            table = straight(40, 15)
            rows = {f"k{number}": [] for number in range(40)}
            for place, name in enumerate(table.names()):
                rows[f"k{place // size}"].append(name)
            office_rows = copy.deepcopy(rows)
            told = mend(table, Judge(), rows, 150, [], ["k0", "k5", "k39"])
            self.assertEqual(rows, office_rows)
            self.assert_dealing(told[3][1], told[3][2], told[3][3:])
            self.assertEqual(sorted(sum(told[0].values(), told[1])), sorted(table.names()))

    def test_forty_loose_trips(self):
        table = straight(40)
        told = mend(table, Judge(), {f"k{number}": [] for number in range(39)}, 0, table.names(), [])
        self.assertEqual((len(told[1]), told[2], len(told[3][0])), (1, [], 40))
        self.assert_dealing(told[3][1], told[3][2], told[3][3:])


class Refused(Case):
    def refused(self, kind, fields, rows, loose, failed, judge=None):
        for now in (-1, 0, 99, LIMIT + 1):
            self.assert_refused(kind, fields, mend, TABLE, judge or Judge(), rows, now, loose, failed)

    def test_forty_one_keys(self):
        rows = {f"k{number}": ["x"] for number in range(41)}
        self.refused(TooMany, {"most": 40}, rows, ["x"], ["z"], CarJudge("moon", []))
        rows = {f"k{number}": [] for number in range(40)}
        self.assertEqual(mend(TABLE, Judge(), rows, 0, [], [])[0], rows)

    def test_trips_row_by_row(self):
        judge = CarJudge("moon", [])
        for rows, loose, kind, name in (
            ({"k": ["a", "x"], "l": ["a"]}, ["y"], NoTrip, "x"), ({"k": ["a"], "l": ["a", "x"]}, ["y"], Twice, "a"),
            ({"k": ["a", "a", "x"]}, [], Twice, "a"), ({"k": ["a", "b"]}, ["c", "b", "x"], Twice, "b"),
            ({"k": ["a"]}, ["x", "a"], NoTrip, "x"), ({"k": []}, ["c", "c"], Twice, "c"), ({}, [""], NoTrip, ""),
        ):
            self.refused(kind, {"name": name}, rows, loose, ["z"], judge)

    def test_then_failed_keys(self):
        for failed in (["z"], ["k", "z", "y"], ["z", "k"]):
            self.refused(NoKey, {"name": "z"}, {"k": ["a"], "l": []}, ["b"], failed, CarJudge("moon", []))
        self.refused(NoKey, {"name": "m"}, {"k": []}, [], ["m"], CarJudge("h", CARS))

    def test_then_what_the_judge_refuses(self):
        rows = {"k": ["b", "a"], "l": [], "z": [], "m": []}
        self.refused(NoKey, {"name": "z"}, rows, [], ["z"], CarJudge("h", CARS))
        self.refused(NoPlace, {"name": "moon"}, rows, [], [], CarJudge("moon", CARS))
        self.refused(NoKey, {"name": "z"}, {"z": [], "k": []}, [], [], CarJudge("moon", CARS))
        drivers = DRIVERS[:1] + [("l", "sun", 0, 0, 0), ("z", "moon", 0, 0, 0)]
        self.refused(NoPlace, {"name": "sun"}, rows, [], [], DriverJudge(Rule(), drivers))
        self.refused(NoKey, {"name": "m"}, {"k": [], "m": [], "l": []}, [], [], DriverJudge(Rule(), drivers))
        self.assertEqual(mend(TABLE, DriverJudge(Rule(), drivers), {"k": ["a"]}, 0, [], [])[0], {"k": ["a"]})

    def test_no_classes_of_its_own(self):
        self.assert_error_classes(module, {})
        self.assertEqual(BIG, 1000)


class Kept(Case):
    def test_changing_what_was_handed_in_or_told(self):
        rows, loose, failed = {"k": ["a", "b", "d"], "l": ["c"], "m": []}, ["o"], ["l"]
        told = mend(TABLE, Judge(), rows, 0, loose, failed)
        before = copy.deepcopy(told)
        rows["k"].clear()
        rows["n"] = []
        loose.append("i")
        failed.append("k")
        self.assertEqual(told, before)
        for key in told[0]:
            told[0][key].append("q")
        told[1].append("q")
        self.assertEqual(told[3], before[3])
        told[3][0][0].append("q")
        told[3][1][0]["k"] = 77
        self.assertEqual(told[3][2:], before[3][2:])
        again = mend(TABLE, Judge(), {"k": ["a", "b", "d"], "l": ["c"], "m": []}, 0, ["o"], ["l"])
        self.assertEqual(again[3][:3], before[3][:3])

    def test_begun_and_pieces_told_are_the_askers(self):
        names = ["a", "b", "d"]
        begun(TABLE, names, 99).clear()
        pieces(TABLE, names)[0].append("q")
        self.assertEqual(names, ["a", "b", "d"])
        self.assertEqual(begun(TABLE, names, 99), names)
        self.assertEqual(pieces(TABLE, names), [["a", "b"], ["d"]])

    def test_asking_again_behind_refusals(self):
        for _ in range(2):
            told = mend(TABLE, CarJudge("h", CARS), {"k": ["b"], "l": []}, 17, [], ["k"])
            self.assertEqual(told[:3], ({"k": [], "l": ["b"]}, [], ["k"]))
            self.assert_refused(NoTrip, {"name": "x"}, mend, TABLE, Judge(), {"k": ["x"]}, 0, [], [])
            self.assertEqual(mend(TABLE, AnyKeys().judge, {"k": ["b"]}, 17, [], [])[0], {"k": ["b"]})
