import copy
import itertools
import random

from fleetpath import papers as module
from fleetpath.errors import LIMIT
from fleetpath.giving import TooFew, dealt
from fleetpath.mending import mend
from fleetpath.papers import deal_holds, few_holds, way_holds
from fleetpath.prices import deal
from fleetpath.relinking import relink
from fleetpath.roads import Roads
from tests.helper import (
    Case, Changes, can_be_dealt, changed_asks, dealings, plain_cost, plain_heights, random_judge, random_office,
    random_roads, random_rows,
)

WAYS = [("a", "b", 3), ("b", "c", 4), ("a", "c", 9), ("a", "b", 5), ("b", "b", 1), ("d", "a", 1)]
HEIGHTS = {"a": 0, "b": 3, "c": 7}


def plain_way_holds(ways, origin, goal, way, heights):
    steps = {}
    for start, end, minutes in ways:
        steps.setdefault((start, end), []).append(minutes)
    fair = heights.get(origin) == 0 and all(
        end in heights and heights[end] <= heights[start] + min(minutes)
        for (start, end), minutes in steps.items() if start in heights
    )
    if way is None:
        return fair and goal not in heights
    if not fair or way[:1] != [origin] or way[-1:] != [goal] or goal not in heights:
        return False
    taken = [steps.get(step) for step in zip(way, way[1:])]
    return all(taken) and sum(min(minutes) for minutes in taken) == heights[goal]


class Ways(Case):
    def assert_as_plain(self, told):
        before = copy.deepcopy(told)
        holds = way_holds(*told)
        self.assertIs(holds, plain_way_holds(*told))
        self.assertEqual(told, before)
        return holds

    def test_known_ones(self):
        for goal, way, holds in (
            ("c", ["a", "b", "c"], True), ("c", ["a", "c"], False), ("c", None, False), ("c", [], False),
            ("c", ["b", "c"], False), ("c", ["a", "b"], False), ("c", ["a", "b", "b", "c"], False),
            ("c", ["c"], False), ("a", ["a"], True), ("a", None, False), ("a", [], False), ("b", ["a", "b"], True),
            ("d", None, True), ("d", ["a", "d"], False), ("d", [], False), ("d", ["d"], False), ("x", None, True),
            ("c", ["a", "x", "c"], False),
        ):
            self.assertIs(way_holds(WAYS, "a", goal, way, dict(HEIGHTS)), holds)

    def test_heights(self):
        for heights, holds in (
            ({"a": 0, "b": 3, "c": 7}, True), ({"a": 1, "b": 3, "c": 7}, False), ({"b": 3, "c": 7}, False),
            ({"a": 0, "b": 2, "c": 7}, False), ({"a": 0, "b": 3, "c": 6}, False), ({"a": 0, "b": 3, "c": 8}, False),
            ({"a": 0, "b": 4, "c": 7}, False), ({"a": 0, "c": 7}, False), ({"a": 0, "b": 3}, False), ({}, False),
            ({"a": 0, "b": 2, "c": 7, "d": 5}, False), ({"a": 0, "b": 3, "c": 7, "d": 5}, True),
            ({"a": 0, "b": 3, "c": 7, "d": -2}, False), ({"a": 0, "b": 3, "c": 7, "x": -9}, True),
            ({"a": 0, "b": -1, "c": 3}, False),
        ):
            self.assertIs(way_holds(WAYS, "a", "c", ["a", "b", "c"], heights), holds)

    def test_a_lower_height_is_fair_but_not_reached(self):
        heights = {"a": 0, "b": 1, "c": 5}
        self.assertIs(way_holds(WAYS, "a", "c", ["a", "b", "c"], heights), False)
        self.assertIs(way_holds(WAYS, "a", "d", None, heights), True)

    def test_numbers_below_nought_and_great_ones(self):
        self.assertIs(way_holds([("a", "b", -3)], "a", "b", ["a", "b"], {"a": 0, "b": -3}), True)
        self.assertIs(way_holds([("a", "a", -3)], "a", "a", ["a"], {"a": 0}), False)
        far = 10 ** 299
        self.assertIs(way_holds([("a", "b", far)], "a", "b", ["a", "b"], {"a": 0, "b": far}), True)
        self.assertIs(way_holds([("a", "b", far)], "a", "b", ["a", "b"], {"a": 0, "b": far - 1}), False)

    def test_no_ways(self):
        self.assertIs(way_holds([], "a", "a", ["a"], {"a": 0}), True)
        self.assertIs(way_holds([], "a", "b", None, {"a": 0}), True)
        self.assertIs(way_holds([], "", "A b\n", None, {"": 0}), True)
        self.assertIs(way_holds([], "a", "b", None, {}), False)

    def test_beyond_twelve_places_and_sixty_ways(self):
        ways = [(f"p{number}", f"p{number + 1}", 2) for number in range(300)]
        heights = {f"p{number}": 2 * number for number in range(301)}
        way = [f"p{number}" for number in range(301)]
        self.assertIs(way_holds(ways, "p0", "p300", way, heights), True)
        self.assertIs(way_holds(ways + [("p0", "p300", 599)], "p0", "p300", way, heights), False)
        self.assertIs(way_holds(ways, "p0", "p300", way[:150] + way[151:], heights), False)

    def test_what_roads_tell_and_one_thing_changed(self):
        source = random.Random(81)
        seen = []
        for _ in range(150):
            places, ways = random_roads(source, 4, 8, 5)
            roads = Roads(places, ways)
            origin, goal = source.choice(places), source.choice(places)
            told = (ways, origin, goal, roads.way(origin, goal), roads.heights(origin))
            self.assertTrue(self.assert_as_plain(told))
            changes = dict.fromkeys(range(1, 5), Changes(places + ["x"])) | {0: Changes(places + ["x"], texts=False)}
            asks = changed_asks(source, told, changes, 40)
            for asked in asks + [told[:3] + (None, told[4]), told[:3] + ([goal], told[4])]:
                holds = self.assert_as_plain(asked)
                seen.append(holds)
                if holds and all(minutes >= 0 for _, _, minutes in asked[0]):
                    self.assertEqual(plain_heights(asked[1], asked[0]).get(asked[2]), asked[3] and asked[4][asked[2]])
        self.assertGreater(min(seen.count(True), seen.count(False)), 500)


def plain_few_holds(rows, lefts, rights):
    if sorted(set(lefts), key=repr) != sorted(lefts, key=repr) or not set(lefts) <= set(rows):
        return False
    return {right for left in lefts for right in rows[left]} <= set(rights) and len(rights) < len(lefts)


class Few(Case):
    def test_known_ones(self):
        rows = {"a": ["x"], "b": ["x", "x"], "c": ["x", "y"], "d": []}
        for lefts, rights, holds in (
            (["a", "b"], ["x"], True), (["a", "b"], ["y"], False), (["a"], ["x"], False), (["d"], [], True),
            ([], [], False),
            (["a", "b", "c"], ["x", "y"], True), (["a", "b", "c"], ["y", "x"], True), (["a", "b", "c"], ["x"], False),
            (["a", "a"], ["x"], False), (["a", "b", "a"], ["x", "y"], False), (["a", "b", "z"], ["x"], False),
            (["a", "b", "c", "d"], ["x", "y", "x"], True), (["a", "b", "c"], ["x", "y", "x"], False),
            (["a", "b", "d"], ["x", "q"], True), (["d"], ["x"], False),
        ):
            self.assertIs(few_holds(rows, lefts, rights), holds)

    def test_things_of_either_kind(self):
        self.assertIs(few_holds({0: [1], 1: [1]}, [0, 1], [1]), True)
        self.assertIs(few_holds({0: ["0"], 1: ["0"]}, [1, 0], ["0"]), True)
        self.assertIs(few_holds({"": [-1], "A b\n": [-1]}, ["", "A b\n"], [-1]), True)
        self.assertIs(few_holds({0: [1], 1: [1]}, ["0", "1"], [1]), False)
        self.assertIs(few_holds({}, [], []), False)

    def test_any_size(self):
        rows = {number: list(range(100)) for number in range(101)}
        self.assertIs(few_holds(rows, list(range(101)), list(range(100))), True)
        self.assertIs(few_holds(rows, list(range(100)), list(range(100))), False)
        rows[7].append(100)
        self.assertIs(few_holds(rows, list(range(101)), list(range(100))), False)

    def test_what_is_told_and_one_thing_changed(self):
        source = random.Random(83)
        seen = []
        while len(seen) < 4000:
            lefts, rights = source.choice([("abcd", "wxyz"), (range(4), range(4)), ("abcd", range(3))])
            rows = {left: source.choices(rights, k=source.randint(0, 3)) for left in lefts}
            try:
                dealt(rows)
                continue
            except TooFew as error:
                told = (rows, error.lefts, error.rights)
            self.assertIs(few_holds(*told), True)
            for asked in changed_asks(source, told, dict.fromkeys(range(3), Changes(["a", "w", "q"])), 60):
                before = copy.deepcopy(asked)
                holds = few_holds(*asked)
                self.assertIs(holds, plain_few_holds(*asked))
                self.assertEqual(asked, before)
                self.assertFalse(holds and can_be_dealt(asked[0]))
                seen.append(holds)
        self.assertGreater(min(seen.count(True), seen.count(False)), 200)


def plain_deal_holds(costs, leaving, dealt, thing_prices, key_prices):
    keys = {key for thing in costs for key in costs[thing]}
    if not list(costs.keys() ^ leaving.keys()) == list(costs.keys() ^ dealt.keys()) == []:
        return False
    if costs.keys() != thing_prices.keys() or keys != key_prices.keys():
        return False
    given = [(thing, key) for thing, key in dealt.items() if key is not None]
    if any(key not in costs[thing] for thing, key in given) or len({key for _, key in given}) < len(given):
        return False
    slack = [-price for price in key_prices.values()]
    slack += [leaving[thing] - thing_prices[thing] for thing in costs]
    slack += [costs[thing][key] - thing_prices[thing] - key_prices[key] for thing in costs for key in costs[thing]]
    total = sum(thing_prices.values()) + sum(key_prices.values())
    return min(slack, default=0) >= 0 and total == plain_cost(costs, leaving, dealt)


class Deals(Case):
    def assert_as_plain(self, told):
        before = copy.deepcopy(told)
        holds = deal_holds(*told)
        self.assertIs(holds, plain_deal_holds(*told))
        self.assertEqual(told, before)
        return holds

    def test_known_ones(self):
        costs, leaving = {"t": {"k": 3, "l": 4}, "u": {"k": 1}}, {"t": 9, "u": 9}
        best = {"t": "l", "u": "k"}
        for dealt_so, things, keys, holds in (
            (best, {"t": 4, "u": 2}, {"k": -1, "l": 0}, True), (best, {"t": 4, "u": 1}, {"k": 0, "l": 0}, False),
            (best, {"t": 4, "u": 3}, {"k": -2, "l": 0}, True), (best, {"t": 5, "u": 3}, {"k": -2, "l": -1}, True),
            (best, {"t": 3, "u": 1}, {"k": 0, "l": 1}, False), (best, {"t": 4, "u": 2}, {"k": -1}, False),
            (best, {"t": 4, "u": 2}, {"k": -1, "l": 0, "m": 0}, False), (best, {"t": 4}, {"k": -1, "l": 0}, False),
            (best, {"t": 4, "u": 2, "v": 0}, {"k": -1, "l": 0}, False),
            ({"t": "l"}, {"t": 4, "u": 2}, {"k": -1, "l": 0}, False),
            ({"t": "k", "u": "k"}, {"t": 3, "u": 1}, {"k": 0, "l": 0}, False),
            ({"t": "k", "u": None}, {"t": 4, "u": 2}, {"k": -1, "l": 0}, False),
            ({"t": "l", "u": "l"}, {"t": 4, "u": 2}, {"k": -1, "l": 0}, False),
            (best, {"t": 9, "u": 7}, {"k": -6, "l": -5}, True), (best, {"t": 10, "u": 8}, {"k": -7, "l": -6}, False),
        ):
            self.assertIs(deal_holds(costs, leaving, dealt_so, things, keys), holds)
        self.assertIs(deal_holds(costs, {"t": 9}, best, {"t": 4, "u": 2}, {"k": -1, "l": 0}), False)
        self.assertIs(deal_holds(costs, leaving | {"v": 1}, best, {"t": 4, "u": 2}, {"k": -1, "l": 0}), False)

    def test_no_things(self):
        self.assertIs(deal_holds({}, {}, {}, {}, {}), True)
        self.assertIs(deal_holds({}, {}, {}, {}, {"k": 0}), False)
        self.assertIs(deal_holds({}, {1: 0}, {}, {}, {}), False)

    def test_numbers_below_nought_and_great_ones(self):
        far = 10 ** 299
        self.assertIs(deal_holds({0: {0: -far}}, {0: 0}, {0: 0}, {0: -far}, {0: 0}), True)
        self.assertIs(deal_holds({0: {0: -far}}, {0: -far - 1}, {0: None}, {0: -far - 1}, {0: 0}), True)
        self.assertIs(deal_holds({0: {0: -far}}, {0: 0}, {0: None}, {0: 0}, {0: 0}), False)
        self.assertIs(deal_holds({0: {0: LIMIT + 1}}, {0: far}, {0: 0}, {0: LIMIT + 1}, {0: 0}), True)

    def test_any_size(self):
        costs = {thing: {key: 5 for key in range(120)} for thing in range(100)}
        leaving = {thing: 9 for thing in range(100)}
        told = (costs, leaving, {thing: thing for thing in range(100)}, {thing: 5 for thing in range(100)})
        self.assertIs(deal_holds(*told, {key: 0 for key in range(120)}), True)
        self.assertIs(deal_holds(*told, {key: 0 for key in range(119)}), False)
        told[2][99] = 98
        self.assertIs(deal_holds(*told, {key: 0 for key in range(120)}), False)

    def assert_changes(self, source, told, names, count):
        """What is told holds; changed in one thing it is as plainly reckoned, and what holds is the least."""
        self.assertTrue(self.assert_as_plain(told))
        seen = []
        plain, nones = Changes(names), Changes(names, nones=True)
        for asked in changed_asks(source, told, {0: plain, 1: plain, 2: nones, 3: plain, 4: plain}, count):
            seen.append(self.assert_as_plain(asked))
            if seen[-1] and len(asked[0]) <= 4:
                costs, leaving, dealt_so = asked[:3]
                least = min(plain_cost(costs, leaving, other) for other in dealings(costs))
                self.assertEqual(plain_cost(costs, leaving, dealt_so), least)
        return seen

    def test_what_is_dealt_and_one_thing_changed(self):
        source = random.Random(86)
        seen = []
        for things, keys in itertools.product(("tuv", range(3), "t"), ("klm", range(3), "k")):
            for _ in range(25):
                able = {thing: [key for key in keys if source.random() < 0.7] for thing in things}
                costs = {thing: {key: source.randint(0, 4) for key in able[thing]} for thing in things}
                leaving = {thing: source.randint(0, 5) for thing in things}
                told = (costs, leaving) + deal(costs, leaving)
                seen += self.assert_changes(source, told, ["t", "k", "q"], 40)
        self.assertGreater(min(seen.count(True), seen.count(False)), 300)

    def test_papers_of_mendings(self):
        source = random.Random(861)
        for _ in range(60):
            office = random_office(source, most_ways=14, count=5, latest=30)
            asked = random_judge(source, office, ["k", "l", "m"], strangers=0)
            rows, loose = random_rows(source, office, ["k", "l", "m"], strange=0)
            for mended in (mend, relink):
                told = mended(office.table, asked.judge, rows, source.randint(0, 20), loose, ["l"])
                self.assert_changes(source, told[-1][1:], ["k", "m", "q"], 25)


class Errors(Case):
    def test_no_classes_of_its_own(self):
        self.assert_error_classes(module, {})
