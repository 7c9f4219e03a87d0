import copy
import itertools
import random

from fleetpath import prices as module
from fleetpath.errors import LIMIT, BadNumber, TooMany
from fleetpath.prices import deal
from tests.helper import Case, dealings, outcome, plain_cost

BOUNDS = (-1, LIMIT + 1, -(10 ** 299), 10 ** 299)


def random_costs(source, things, keys, most, often=0.7):
    costs = {
        thing: {key: source.randint(0, most) for key in source.sample(keys, len(keys)) if source.random() < often}
        for thing in things
    }
    leaving = {thing: source.randint(0, most) for thing in source.sample(things, len(things))}
    return costs, leaving


def plain_refusal(costs, leaving):
    if len(costs) > 40:
        return (TooMany, {"most": 40})
    if len({key for thing in costs for key in costs[thing]}) > 80:
        return (TooMany, {"most": 80})
    for thing in costs:
        for value in [leaving[thing]] + list(costs[thing].values()):
            if not 0 <= value <= LIMIT:
                return (BadNumber, {"value": value})
    return None


class Dealt(Case):
    """Dealings of small costs, of which all are looked at."""

    def assert_least(self, costs, leaving):
        before = copy.deepcopy((costs, leaving))
        told = deal(costs, leaving)
        self.assertEqual((costs, leaving), before)
        least = min(plain_cost(costs, leaving, dealt) for dealt in dealings(costs))
        self.assertEqual(self.assert_dealing(costs, leaving, told), least)
        return told

    def test_against_a_plain_search(self):
        source = random.Random(70)
        kinds = (list(range(-2, 3)), ["", "a", "A b\n", "10", "zz"], ["k0", "k1"], [7, 0])
        for things, keys in itertools.product(kinds, kinds):
            for most in (0, 1, 2, 9, LIMIT):
                for _ in range(12):
                    some = source.sample(things, source.randint(0, min(4, len(things))))
                    self.assert_least(*random_costs(source, some, keys, most))

    def test_no_things(self):
        self.assertEqual(deal({}, {}), ({}, {}, {}))

    def test_a_thing_without_keys(self):
        self.assertEqual(deal({"t": {}}, {"t": 9}), ({"t": None}, {"t": 9}, {}))
        for cost in (0, 8, 9, 10):
            told = self.assert_least({"s": {"k": cost}, "t": {}}, {"t": 9, "s": 9})
            self.assertIs(told[0]["t"], None)

    def test_left_or_not_at_the_edge(self):
        for cost, leaving, key in ((0, 1, 5), (1, 0, None), (LIMIT, LIMIT - 1, None), (LIMIT - 1, LIMIT, 5)):
            self.assertEqual(self.assert_least({3: {5: cost}}, {3: leaving})[0], {3: key})
        for both in (0, 4, LIMIT):
            self.assertIn(self.assert_least({3: {5: both}}, {3: both})[0][3], (None, 5))

    def test_leaving_less_and_more_than_all_costs(self):
        source = random.Random(7)
        for leaving, some in ((0, [None]), (10, ["a", "b", "c"])):
            costs, _ = random_costs(source, [1, 2, 3], ["a", "b", "c"], 9, often=1)
            costs = {thing: {key: cost + 1 for key, cost in costs[thing].items()} for thing in costs}
            told = self.assert_least(costs, {thing: 3 * leaving for thing in costs})
            self.assertEqual(sorted(set(told[0].values()), key=str), some)

    def test_nought_and_limit(self):
        for one, two, three, four, first, second in itertools.product((0, LIMIT), repeat=6):
            self.assert_least({"t": {"k": one, "l": two}, "u": {"k": three, "l": four}}, {"t": first, "u": second})

    def test_things_and_keys_that_are_equal_are_two(self):
        told = self.assert_least({0: {0: 5, 1: 1}, 1: {1: 1}}, {0: 9, 1: 9})
        self.assertEqual(told[0], {0: 0, 1: 1})

    def test_a_thing_that_makes_room_for_others(self):
        told = self.assert_least({1: {"a": 0, "b": 1}, 2: {"a": 0, "b": 9}, 3: {"a": 5}}, {1: 9, 2: 4, 3: 10})
        self.assertEqual(told[0], {1: "b", 2: None, 3: "a"})


class Great(Case):
    """Costs too great for a search: the prices tell that the dealing is the least."""

    def test_forty_things_and_eighty_keys(self):
        source = random.Random(71)
        for most in (1, 9, 1000, LIMIT):
            for keys in (80, 40, 20):
                for often in (0.1, 0.6, 1):
                    costs, leaving = random_costs(source, list(range(40)), list(range(keys)), most, often)
                    self.assert_dealing(costs, leaving, deal(costs, leaving))
                    many = {thing: LIMIT for thing in costs}
                    self.assert_dealing(costs, many, deal(costs, many))

    def test_costs_that_grow_with_both(self):
        costs = {f"t{one}": {f"k{other}": (one + 1) * (other + 1) for other in range(80)} for one in range(40)}
        leaving = {thing: LIMIT for thing in costs}
        told = deal(costs, leaving)
        self.assert_dealing(costs, leaving, told)
        self.assertEqual(told[0], {f"t{one}": f"k{39 - one}" for one in range(40)})

    def test_more_things_than_keys(self):
        costs = {thing: {0: thing, 1: thing} for thing in range(40)}
        leaving = {thing: 2 * thing for thing in range(40)}
        told = deal(costs, leaving)
        self.assert_dealing(costs, leaving, told)
        self.assertEqual({thing for thing, key in told[0].items() if key is not None}, {38, 39})


class Refused(Case):
    def test_forty_and_forty_one_things(self):
        for count in (39, 40):
            costs = {thing: {"k": 1} for thing in range(count)}
            self.assertEqual(len(deal(costs, {thing: 2 for thing in costs})[0]), count)
        costs = {thing: {"k": 1} for thing in range(41)}
        self.assert_refused(TooMany, {"most": 40}, deal, costs, {thing: 2 for thing in costs})

    def test_eighty_and_eighty_one_keys(self):
        for count in (79, 80):
            costs = {"s": {key: 1 for key in range(count)}, "t": {key: 1 for key in range(count)}}
            self.assertEqual(len(deal(costs, {"s": 0, "t": 0})[2]), count)
        leaving = {"s": 0, "t": 0}
        self.assert_refused(TooMany, {"most": 80}, deal, {"s": {key: 1 for key in range(81)}, "t": {}}, leaving)
        halves = {"s": {key: 1 for key in range(41)}, "t": {key: 1 for key in range(40, 81)}}
        self.assert_refused(TooMany, {"most": 80}, deal, halves, leaving)
        overlap = {"s": {key: 1 for key in range(60)}, "t": {key: 1 for key in range(20, 80)}}
        self.assertEqual(len(deal(overlap, leaving)[2]), 80)

    def test_too_many_things_ahead_of_keys_ahead_of_numbers(self):
        wide = {thing: {key: -1 for key in range(81)} for thing in range(41)}
        self.assert_refused(TooMany, {"most": 40}, deal, wide, {thing: -1 for thing in wide})
        wide.pop(0)
        self.assert_refused(TooMany, {"most": 80}, deal, wide, {thing: -1 for thing in wide})

    def test_numbers(self):
        for value in BOUNDS:
            self.assert_refused(BadNumber, {"value": value}, deal, {"t": {"k": value}}, {"t": 0})
            self.assert_refused(BadNumber, {"value": value}, deal, {"t": {"k": 0}}, {"t": value})
            self.assert_refused(BadNumber, {"value": value}, deal, {"s": {}, "t": {}}, {"s": 0, "t": value})
        self.assertEqual(deal({"t": {"k": LIMIT}}, {"t": 0})[0], {"t": None})

    def test_leaving_ahead_of_costs_and_thing_by_thing(self):
        for costs, leaving, value in (
            ({"t": {"k": -1, "l": -2}}, {"t": -3}, -3),
            ({"t": {"k": -1, "l": -2}}, {"t": 3}, -1),
            ({"t": {"l": -2, "k": -1}}, {"t": 3}, -2),
            ({"s": {"k": 1, "l": -2}, "t": {}}, {"t": -3, "s": 0}, -2),
            ({"t": {}, "s": {"k": 1, "l": -2}}, {"s": -4, "t": -3}, -3),
            ({"t": {"k": LIMIT + 1}, "s": {"k": -1}}, {"s": -4, "t": 3}, LIMIT + 1),
        ):
            self.assert_refused(BadNumber, {"value": value}, deal, costs, leaving)

    def test_several_at_random(self):
        source = random.Random(4)
        for _ in range(400):
            costs, leaving = random_costs(source, list(range(source.randint(36, 42))), list(range(82)), 9, 0.06)
            for _ in range(source.randint(0, 3)):
                costs[source.choice(list(costs))][source.randint(0, 81)] = source.choice(BOUNDS)
            for _ in range(source.randint(0, 2)):
                leaving[source.choice(list(costs))] = source.choice(BOUNDS)
            refusal = plain_refusal(costs, leaving)
            if refusal:
                self.assertEqual(outcome(deal, costs, leaving), refusal)
            else:
                self.assert_dealing(costs, leaving, deal(costs, leaving))

    def test_no_classes_of_its_own(self):
        self.assert_error_classes(module, {})


class Kept(Case):
    def test_changing_what_was_handed_in_or_told(self):
        costs, leaving = {"s": {"k": 1, "l": 2}, "t": {"k": 1}}, {"s": 9, "t": 9}
        told = deal(costs, leaving)
        before = copy.deepcopy(told)
        costs["s"]["l"] = 99
        costs["u"] = {}
        leaving.clear()
        self.assertEqual(told, before)
        for part in told:
            part.clear()
        again = deal({"s": {"k": 1, "l": 2}, "t": {"k": 1}}, {"s": 9, "t": 9})
        self.assertEqual(again[0], {"s": "l", "t": "k"})

    def test_asking_again_after_a_refusal(self):
        costs, leaving = {"s": {"k": 1}}, {"s": 9}
        for _ in range(2):
            self.assertEqual(deal(costs, leaving)[0], {"s": "k"})
            self.assert_refused(BadNumber, {"value": -1}, deal, costs, {"s": -1})
            self.assertEqual(deal({"s": {"k": 1}}, {"s": 0})[0], {"s": None})
