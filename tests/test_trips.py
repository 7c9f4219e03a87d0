import itertools
import random

from fleetpath import trips
from fleetpath.errors import LIMIT, BadName, BadNumber, NoPlace, NoTrip, NoWay, TooMany, Twice
from fleetpath.roads import Roads
from fleetpath.trips import Backward, Table, TooFast
from tests.helper import Case

PLACES = ["a", "b", "c"]
WAYS = [("a", "b", 10), ("b", "a", 4), ("a", "a", 50), ("c", "a", 7)]
ROADS = Roads(PLACES, WAYS)
AHEAD = ("ahead", "a", "b", 0, 10, 0)
GOOD = {"name": "t", "origin": "a", "goal": "b", "start": 100, "finish": 110, "seats": 3}

# In the order that is written: what is changed in the good trip, and the refusal with its fields.
FAULTS = [
    ({"name": "T"}, BadName, {"name": "T"}),
    ({"name": "ahead"}, Twice, {"name": "ahead"}),
    ({"origin": "x"}, NoPlace, {"name": "x"}),
    ({"goal": "y"}, NoPlace, {"name": "y"}),
    ({"start": -1}, BadNumber, {"value": -1}),
    ({"start": LIMIT + 1}, BadNumber, {"value": LIMIT + 1}),
    ({"finish": LIMIT + 2}, BadNumber, {"value": LIMIT + 2}),
    ({"finish": LIMIT + 1}, BadNumber, {"value": LIMIT + 1}),
    ({"finish": -1}, BadNumber, {"value": -1}),
    ({"seats": -1}, BadNumber, {"value": -1}),
    ({"seats": LIMIT + 1}, BadNumber, {"value": LIMIT + 1}),
    ({"seats": LIMIT + 3}, BadNumber, {"value": LIMIT + 3}),
    ({"finish": 0}, Backward, {"name": "t"}),
    ({"finish": 100}, Backward, {"name": "t"}),
    ({"finish": 99}, Backward, {"name": "t"}),
    ({"goal": "c"}, NoWay, {"origin": "a", "goal": "c"}),
    ({"finish": 109}, TooFast, {"name": "t"}),
    ({"finish": 101}, TooFast, {"name": "t"}),
]


def faulty(*changes):
    parts = dict(GOOD)
    for change in changes:
        parts.update(change)
    return tuple(parts.values())


def many(count):
    return [(f"t{number}", "a", "a", number, number + 1, 0) for number in range(count)]


class Errors(Case):
    def test_classes(self):
        self.assert_error_classes(trips, {"Backward": ["name"], "TooFast": ["name"]})


class Making(Case):
    def test_bound(self):
        self.assertEqual(trips.MOST_TRIPS, 40)

    def test_without_trips(self):
        self.assertEqual(Table(ROADS, []).names(), [])
        self.assertEqual(Table(Roads([], []), []).names(), [])

    def test_the_good_trip_is_taken(self):
        self.assertEqual(Table(ROADS, [AHEAD, faulty()]).names(), ["ahead", "t"])

    def test_forty_and_forty_one_trips(self):
        self.assertEqual(len(Table(ROADS, many(40)).names()), 40)
        self.assert_refused(TooMany, {"most": 40}, Table, ROADS, many(41))
        self.assert_refused(TooMany, {"most": 40}, Table, ROADS, [faulty({"name": "T"})] * 41)

    def test_edges_that_are_taken(self):
        for change in (
            {"start": 0}, {"finish": LIMIT}, {"start": LIMIT - 10, "finish": LIMIT},
            {"seats": 0}, {"seats": LIMIT}, {"finish": 110}, {"finish": 111}, {"name": "x" * 12}, {"name": "0"},
            {"goal": "a", "finish": 101}, {"goal": "a", "finish": 102}, {"goal": "a", "finish": 150},
        ):
            trip = faulty(change)
            self.assertEqual(Table(ROADS, [trip]).trip(trip[0]), trip)

    def test_from_a_place_to_itself(self):
        trip = ("t", "c", "c", 5, 6, 0)
        self.assertEqual(Table(Roads(["c"], []), [trip]).trip("t"), trip)
        self.assert_refused(Backward, {"name": "t"}, Table, ROADS, [("t", "c", "c", 5, 5, 0)])

    def test_far_lengths(self):
        roads = Roads(PLACES, [("a", "b", LIMIT), ("b", "c", LIMIT)])
        self.assertEqual(Table(roads, [("t", "a", "b", 0, LIMIT, 0)]).names(), ["t"])
        self.assert_refused(TooFast, {"name": "t"}, Table, roads, [("t", "a", "b", 1, LIMIT, 0)])
        self.assert_refused(TooFast, {"name": "t"}, Table, roads, [("t", "a", "c", 0, LIMIT, 0)])

    def test_each_refusal_alone(self):
        for change, kind, fields in FAULTS:
            self.assert_refused(kind, fields, Table, ROADS, [AHEAD, faulty(change)])

    def test_other_texts_that_are_no_names(self):
        for text in ("", "x" * 13, "a b", "a\n", "\ta"):
            self.assert_refused(BadName, {"name": text}, Table, ROADS, [faulty({"name": text})])

    def test_two_and_three_refusals_at_one_trip(self):
        for count in (2, 3):
            for faults in itertools.combinations(FAULTS, count):
                fields = [field for change, _, _ in faults for field in change]
                if len(set(fields)) == len(fields):
                    trip = faulty(*[change for change, _, _ in faults])
                    self.assert_refused(faults[0][1], faults[0][2], Table, ROADS, [AHEAD, trip])

    def test_backward_ahead_of_no_way_and_too_fast(self):
        self.assert_refused(Backward, {"name": "t"}, Table, ROADS, [faulty({"goal": "c", "finish": 100})])
        self.assert_refused(Backward, {"name": "t"}, Table, ROADS, [faulty({"start": 110})])

    def test_bad_numbers_ahead_of_backward(self):
        trip = faulty({"start": LIMIT + 1, "finish": -1})
        self.assert_refused(BadNumber, {"value": LIMIT + 1}, Table, ROADS, [trip])
        trip = faulty({"start": 5, "finish": -1, "seats": -9})
        self.assert_refused(BadNumber, {"value": -1}, Table, ROADS, [trip])
        trip = faulty({"start": 5, "finish": 5, "seats": -9})
        self.assert_refused(BadNumber, {"value": -9}, Table, ROADS, [trip])

    def test_refusals_at_different_trips(self):
        for earlier, later in itertools.product(FAULTS, FAULTS):
            trips_told = [AHEAD, faulty(earlier[0]), faulty(later[0])]
            self.assert_refused(earlier[1], earlier[2], Table, ROADS, trips_told)

    def test_twice_is_told_of_any_trip_ahead(self):
        handed = [AHEAD, faulty(), AHEAD]
        self.assert_refused(Twice, {"name": "ahead"}, Table, ROADS, handed)
        self.assert_refused(Twice, {"name": "t"}, Table, ROADS, [faulty(), AHEAD, faulty({"start": 50})])


class Order(Case):
    def test_start_then_finish_then_name(self):
        handed = [
            ("b", "a", "a", 5, 9, 0), ("ba", "a", "a", 5, 9, 0), ("a9", "a", "a", 5, 9, 0), ("9", "a", "a", 5, 9, 0),
            ("zz", "a", "a", 5, 8, 0), ("z", "a", "a", 4, 100, 0), ("aa", "a", "a", 10, 11, 0), ("a", "a", "a", 5, 9, 0),
            ("0", "a", "a", 100, 101, 0),
        ]
        told = ["z", "zz", "9", "a", "a9", "b", "ba", "aa", "0"]
        source = random.Random(21)
        for _ in range(50):
            source.shuffle(handed)
            self.assertEqual(Table(ROADS, handed).names(), told)

    def test_each_trip_as_it_was_handed_in(self):
        table = Table(ROADS, [faulty(), AHEAD])
        self.assertEqual((table.trip("t"), table.trip("ahead")), (faulty(), AHEAD))

    def test_no_trip(self):
        table = Table(ROADS, [AHEAD])
        for name in ("x", "", "aheadx", "ahea", "AHEAD", "a b\n"):
            self.assert_refused(NoTrip, {"name": name}, table.trip, name)
        self.assert_refused(NoTrip, {"name": "a"}, Table(ROADS, []).trip, "a")

    def test_roads(self):
        self.assertIs(Table(ROADS, [AHEAD]).roads, ROADS)


class Kept(Case):
    def test_what_is_handed_in_stays_and_may_be_changed(self):
        handed = [faulty(), AHEAD]
        table = Table(ROADS, handed)
        self.assertEqual(handed, [faulty(), AHEAD])
        handed.clear()
        handed.append(("new", "a", "a", 0, 1, 0))
        self.assertEqual(table.names(), ["ahead", "t"])
        self.assertEqual(table.trip("t"), faulty())
        self.assert_refused(NoTrip, {"name": "new"}, table.trip, "new")

    def test_refused_trips_stay(self):
        handed = [faulty(), faulty()]
        self.assert_refused(Twice, {"name": "t"}, Table, ROADS, handed)
        self.assertEqual(handed, [faulty(), faulty()])

    def test_what_is_told_is_the_askers_own(self):
        table = Table(ROADS, [faulty(), AHEAD])
        earlier = table.names()
        table.names().clear()
        table.names().reverse()
        self.assertEqual(table.names(), ["ahead", "t"])
        self.assertEqual(earlier, ["ahead", "t"])

    def test_roads_changed_behind_the_call(self):
        places, ways = list(PLACES), list(WAYS)
        table = Table(Roads(places, ways), [AHEAD])
        places.clear()
        ways.clear()
        self.assertEqual(table.roads.length("a", "b"), 10)
