import itertools
import random

from fleetpath import roads
from fleetpath.errors import LIMIT, BadName, BadNumber, NoPlace, TooMany, Twice
from fleetpath.roads import Roads
from tests.helper import Case, plain_heights, random_roads

TWELVE = [f"p{number}" for number in range(12)]


class Making(Case):
    def test_bounds(self):
        self.assertEqual((roads.MOST_PLACES, roads.MOST_WAYS), (12, 60))

    def test_without_places_and_without_ways(self):
        self.assertEqual(Roads([], []).names(), [])
        self.assertEqual(Roads(["b", "a"], []).names(), ["b", "a"])

    def test_twelve_places_and_sixty_ways(self):
        made = Roads(TWELVE, [("p0", "p1", 60 - number) for number in range(60)])
        self.assertEqual(made.names(), TWELVE)
        self.assertEqual(made.length("p0", "p1"), 1)

    def test_thirteen_places(self):
        for thirteenth in ("p12", "p0", "P12", ""):
            self.assert_refused(TooMany, {"most": 12}, Roads, TWELVE + [thirteenth], [])

    def test_sixty_one_ways(self):
        self.assert_refused(TooMany, {"most": 60}, Roads, ["a"], [("a", "a", 1)] * 61)

    def test_place_refusals(self):
        for text in ("", "x" * 13, "A", "a b", "a\n"):
            self.assert_refused(BadName, {"name": text}, Roads, [text], [])
            self.assert_refused(BadName, {"name": text}, Roads, ["ok", text], [])
        self.assert_refused(Twice, {"name": "a"}, Roads, ["a", "a"], [])
        self.assert_refused(Twice, {"name": "b"}, Roads, ["a", "b", "c", "b"], [])

    def test_way_refusals(self):
        self.assert_refused(NoPlace, {"name": "x"}, Roads, ["a"], [("x", "a", 1)])
        self.assert_refused(NoPlace, {"name": "x"}, Roads, ["a"], [("a", "x", 1)])
        self.assert_refused(NoPlace, {"name": "x"}, Roads, [], [("x", "x", 1)])
        self.assert_refused(NoPlace, {"name": "A B"}, Roads, ["a"], [("a", "A B", 1)])
        for minutes in (0, -1, LIMIT + 1, 10 ** 299, -(10 ** 299)):
            self.assert_refused(BadNumber, {"value": minutes}, Roads, ["a", "b"], [("a", "b", minutes)])
        self.assertEqual(Roads(["a", "b"], [("a", "b", 1)]).length("a", "b"), 1)
        self.assertEqual(Roads(["a", "b"], [("a", "b", LIMIT)]).length("a", "b"), LIMIT)


class Order(Case):
    """Several refusals at once: the one that is written first is told."""

    def test_too_many_places_ahead_of_too_many_ways(self):
        self.assert_refused(TooMany, {"most": 12}, Roads, ["A"] * 13, [("x", "y", 0)] * 61)

    def test_too_many_ways_ahead_of_places(self):
        self.assert_refused(TooMany, {"most": 60}, Roads, ["A", "a", "a"], [("x", "y", 0)] * 61)

    def test_place_by_place(self):
        self.assert_refused(BadName, {"name": "A"}, Roads, ["A", "A"], [])
        self.assert_refused(BadName, {"name": "A"}, Roads, ["a", "A", "a"], [])
        self.assert_refused(Twice, {"name": "a"}, Roads, ["a", "a", "A"], [])
        self.assert_refused(Twice, {"name": "b"}, Roads, ["a", "b", "b", "a"], [])

    def test_places_ahead_of_ways(self):
        self.assert_refused(BadName, {"name": "B"}, Roads, ["a", "B"], [("x", "y", 0)])
        self.assert_refused(Twice, {"name": "a"}, Roads, ["a", "a"], [("x", "y", 0)])

    def test_within_a_way(self):
        self.assert_refused(NoPlace, {"name": "x"}, Roads, ["a"], [("x", "y", 0)])
        self.assert_refused(NoPlace, {"name": "x"}, Roads, ["a"], [("x", "a", 0)])
        self.assert_refused(NoPlace, {"name": "y"}, Roads, ["a"], [("a", "y", 0)])

    def test_way_by_way(self):
        good = ("a", "a", 1)
        self.assert_refused(BadNumber, {"value": 0}, Roads, ["a"], [good, ("a", "a", 0), ("x", "a", 1)])
        self.assert_refused(NoPlace, {"name": "y"}, Roads, ["a"], [good, ("a", "y", 1), ("x", "a", 0)])


class Questions(Case):
    def assert_answers(self, places, ways):
        made = Roads(places, ways)
        for origin in places:
            plain = plain_heights(origin, ways)
            heights = made.heights(origin)
            self.assertEqual(heights, plain)
            self.assert_paper(origin, ways, heights)
            for goal in places:
                self.assertEqual(made.length(origin, goal), plain.get(goal))
                self.assert_way(ways, origin, goal, made.way(origin, goal), plain.get(goal))

    def assert_paper(self, origin, ways, heights):
        self.assertEqual(heights[origin], 0)
        for start, goal, minutes in ways:
            if start in heights:
                self.assertLessEqual(heights[goal], heights[start] + minutes)

    def assert_way(self, ways, origin, goal, way, length):
        if length is None:
            self.assertIsNone(way)
            return
        self.assertEqual((way[0], way[-1]), (origin, goal))
        if origin == goal:
            self.assertEqual(way, [origin])
        steps = [
            min(minutes for start, end, minutes in ways if (start, end) == step)
            for step in zip(way, way[1:])
        ]
        self.assertEqual(sum(steps), length)

    def test_all_roads_of_two_places_and_some_ways(self):
        kinds = list(itertools.product("ab", "ab", (1, 2, 5)))
        for count in range(4):
            for ways in itertools.combinations(kinds, count):
                self.assert_answers(["a", "b"], list(ways))

    def test_against_a_plain_search(self):
        source = random.Random(14)
        for longest in (1, 3, 20, LIMIT):
            for _ in range(150):
                places, ways = random_roads(source, 6, 14, longest)
                self.assert_answers(places, ways)

    def test_one_way_round_alone(self):
        made = Roads(["a", "b"], [("a", "b", 4)])
        self.assertEqual((made.length("a", "b"), made.length("b", "a")), (4, None))
        self.assertEqual((made.way("a", "b"), made.way("b", "a")), (["a", "b"], None))
        self.assertEqual((made.heights("a"), made.heights("b")), ({"a": 0, "b": 4}, {"b": 0}))

    def test_several_ways_between_two_places(self):
        self.assert_answers(["a", "b"], [("a", "b", 9), ("a", "b", 4), ("a", "b", 4), ("a", "b", 7)])

    def test_ways_from_a_place_to_itself(self):
        self.assert_answers(["a", "b"], [("a", "a", 1), ("a", "b", 3), ("b", "b", 2)])

    def test_from_a_place_to_itself_without_ways(self):
        made = Roads(["a"], [])
        self.assertEqual((made.length("a", "a"), made.way("a", "a"), made.heights("a")), (0, ["a"], {"a": 0}))

    def test_longer_than_the_limit_along_twelve_places(self):
        ways = [(f"p{number}", f"p{number + 1}", LIMIT) for number in reversed(range(11))]
        made = Roads(TWELVE, ways)
        self.assertEqual(made.length("p0", "p11"), 11 * LIMIT)
        self.assertEqual(made.way("p0", "p11"), TWELVE)
        self.assertEqual(made.way("p11", "p0"), None)
        self.assert_answers(TWELVE, ways)

    def test_places_that_are_not_there(self):
        for made in (Roads(["a"], []), Roads(["a", "b"], [("a", "b", 1)])):
            for ask in (made.length, made.way):
                self.assert_refused(NoPlace, {"name": "x"}, ask, "x", "a")
                self.assert_refused(NoPlace, {"name": "y"}, ask, "a", "y")
                self.assert_refused(NoPlace, {"name": "x"}, ask, "x", "y")
                self.assert_refused(NoPlace, {"name": "x"}, ask, "x", "x")
            for name in ("x", "", "A B\n"):
                self.assert_refused(NoPlace, {"name": name}, made.heights, name)
        self.assert_refused(NoPlace, {"name": "a"}, Roads([], []).length, "a", "b")
        self.assert_refused(NoPlace, {"name": "a"}, Roads([], []).way, "a", "a")
        self.assert_refused(NoPlace, {"name": "a"}, Roads([], []).heights, "a")


class Kept(Case):
    def setUp(self):
        self.places = ["a", "b", "c"]
        self.ways = [("a", "b", 2), ("b", "c", 3), ("a", "c", 9)]
        self.made = Roads(self.places, self.ways)

    def assert_as_told(self):
        self.assertEqual(self.made.way("a", "c"), ["a", "b", "c"])
        self.assertEqual(self.made.heights("a"), {"a": 0, "b": 2, "c": 5})
        self.assertEqual(self.made.length("c", "a"), None)
        self.assertEqual(self.made.names(), ["a", "b", "c"])
        self.assertEqual(self.made.length("a", "c"), 5)
        self.assertEqual(self.made.way("c", "a"), None)

    def test_what_is_handed_in_stays(self):
        self.assert_as_told()
        self.assertEqual(self.places, ["a", "b", "c"])
        self.assertEqual(self.ways, [("a", "b", 2), ("b", "c", 3), ("a", "c", 9)])

    def test_what_is_refused_stays(self):
        self.assert_refused(Twice, {"name": "a"}, Roads, self.places + ["a"], self.ways)
        places, ways = ["a"], [("a", "x", 1)]
        self.assert_refused(NoPlace, {"name": "x"}, Roads, places, ways)
        self.assertEqual((places, ways), (["a"], [("a", "x", 1)]))

    def test_changing_what_was_handed_in(self):
        self.places.append("d")
        self.places[0] = "x"
        self.ways.clear()
        self.ways.append(("c", "a", 1))
        self.assert_as_told()
        self.assert_refused(NoPlace, {"name": "d"}, self.made.heights, "d")

    def test_changing_what_was_told(self):
        self.made.names().clear()
        self.made.heights("a").clear()
        self.made.heights("a")["b"] = 0
        self.made.way("a", "c").reverse()
        self.made.way("a", "a").append("x")
        self.assert_as_told()
        self.assertEqual(self.made.way("a", "a"), ["a"])

    def test_asking_changes_nothing_told_earlier(self):
        heights, way, names = self.made.heights("a"), self.made.way("a", "c"), self.made.names()
        self.assert_as_told()
        self.assert_as_told()
        self.assertEqual((heights, way, names), ({"a": 0, "b": 2, "c": 5}, ["a", "b", "c"], ["a", "b", "c"]))
