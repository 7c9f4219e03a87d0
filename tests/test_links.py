import random

from fleetpath.errors import LIMIT, NoTrip
from fleetpath.links import gap, linked, links
from fleetpath.roads import Roads
from fleetpath.trips import Table
from tests.helper import Case, plain_heights, plain_linked, random_roads, random_table_parts

ROADS = Roads(["a", "b", "c"], [("a", "b", 10), ("b", "a", 4), ("a", "c", 6)])


def table_of(*trips):
    return Table(ROADS, list(trips))


class Gaps(Case):
    def test_above_at_and_below_nought(self):
        for start, minutes in ((125, 11), (115, 1), (114, 0), (113, -1), (112, -2), (0, -114)):
            table = table_of(("one", "a", "b", 100, 110, 0), ("other", "a", "b", start, start + 10, 0))
            self.assertEqual(gap(table, "one", "other"), minutes)
            self.assertIs(linked(table, "one", "other"), minutes >= 0)

    def test_from_the_goal_to_the_origin(self):
        table = table_of(("one", "a", "b", 0, 10, 0), ("other", "b", "a", 30, 34, 0))
        self.assertEqual(gap(table, "one", "other"), 20)
        self.assertEqual(gap(table, "other", "one"), 0 - 34 - 0)

    def test_without_a_way(self):
        table = table_of(("one", "a", "c", 0, 10, 0), ("other", "a", "b", 30, 40, 0))
        self.assertIsNone(gap(table, "one", "other"))
        self.assertIs(linked(table, "one", "other"), False)
        self.assertEqual(gap(table, "other", "one"), 0 - 40 - 4)

    def test_a_trip_and_itself(self):
        table = table_of(("t", "a", "b", 0, 10, 0), ("u", "a", "c", 0, 10, 0), ("v", "a", "a", 3, 4, 0))
        self.assertEqual([gap(table, name, name) for name in "tuv"], [-14, None, -1])
        self.assertEqual([linked(table, name, name) for name in "tuv"], [False, False, False])

    def test_far_gaps(self):
        roads = Roads(["a", "b", "c"], [("a", "b", LIMIT), ("b", "c", LIMIT)])
        trips = [("one", "a", "a", LIMIT - 1, LIMIT, 0), ("other", "c", "c", 0, 1, 0), ("late", "a", "a", 0, 1, 0)]
        table = Table(roads, trips)
        self.assertEqual(gap(table, "one", "other"), -3 * LIMIT)
        self.assertEqual(gap(table, "late", "one"), LIMIT - 2)

    def test_names_that_no_trips_have(self):
        table = table_of(("t", "a", "b", 0, 10, 0))
        for ask in (gap, linked):
            self.assert_refused(NoTrip, {"name": "x"}, ask, table, "x", "t")
            self.assert_refused(NoTrip, {"name": "y"}, ask, table, "t", "y")
            self.assert_refused(NoTrip, {"name": "x"}, ask, table, "x", "y")
            self.assert_refused(NoTrip, {"name": ""}, ask, table, "", "A B")


class Links(Case):
    def each_table(self):
        source = random.Random(23)
        for _ in range(250):
            places, ways = random_roads(source, 4, 9, 6)
            trips = random_table_parts(source, places, ways, source.randint(0, 8), 30)
            yield places, ways, trips, Table(Roads(places, ways), trips)

    def test_against_gaps_and_lengths_reckoned_here(self):
        for places, ways, trips, table in self.each_table():
            heights = {place: plain_heights(place, ways) for place in places}
            for one in trips:
                for other in trips:
                    length = heights[one[2]].get(other[1])
                    minutes = None if length is None else other[3] - one[4] - length
                    self.assertEqual(gap(table, one[0], other[0]), minutes)
                    self.assertIs(linked(table, one[0], other[0]), plain_linked(heights, one, other))

    def test_keys_and_lists_in_the_tables_order(self):
        for _, _, trips, table in self.each_table():
            told = links(table)
            names = [trip[0] for trip in sorted(trips, key=lambda trip: (trip[3], trip[4], trip[0]))]
            self.assertEqual(list(told), names)
            for one in names:
                self.assertEqual(told[one], [other for other in names if linked(table, one, other)])

    def test_they_are_an_order(self):
        for _, _, _, table in self.each_table():
            told = links(table)
            for one in told:
                self.assertNotIn(one, told[one])
                for other in told[one]:
                    self.assertNotIn(one, told[other])
                    self.assertLess(table.trip(one)[3], table.trip(other)[3])
                    for third in told[other]:
                        self.assertIn(third, told[one])

    def test_known_links(self):
        table = table_of(
            ("late", "a", "b", 60, 70, 0), ("b", "b", "a", 20, 24, 0), ("a", "a", "b", 0, 10, 0),
            ("aa", "b", "a", 20, 24, 0), ("end", "a", "c", 5, 11, 0), ("c", "c", "c", 80, 81, 0),
        )
        self.assertEqual(links(table), {
            "a": ["aa", "b", "late", "c"], "end": ["c"], "aa": ["late", "c"], "b": ["late", "c"], "late": ["c"], "c": [],
        })
        self.assertEqual(list(links(table)), ["a", "end", "aa", "b", "late", "c"])

    def test_of_no_trips(self):
        self.assertEqual(links(table_of()), {})

    def test_forty_trips(self):
        trips = [(f"t{number}", "a", "a", number, number + 1, 0) for number in range(40)]
        told = links(Table(ROADS, trips))
        for number in range(40):
            self.assertEqual(told[f"t{number}"], [f"t{later}" for later in range(number + 1, 40)])

    def test_what_is_told_is_the_askers_own(self):
        table = table_of(("a", "a", "b", 0, 10, 0), ("b", "b", "a", 20, 24, 0))
        earlier = links(table)
        changed = links(table)
        changed["a"].append("x")
        changed["b"] = ["a"]
        self.assertEqual(links(table), {"a": ["b"], "b": []})
        self.assertEqual(earlier, {"a": ["b"], "b": []})
        self.assertEqual(gap(table, "a", "b"), 10)
        self.assertEqual(table.names(), ["a", "b"])
