import copy
import itertools
import random

from fleetpath import chains as module
from fleetpath.chains import NotOrdered, Ring, apart, chains
from fleetpath.errors import FleetError, NoTrip, TooMany
from fleetpath.links import links
from fleetpath.roads import Roads
from fleetpath.trips import Table
from tests.helper import (
    Case, are_apart, plain_fewest_chains, plain_heights, plain_linked, plain_most_apart, random_roads,
    random_table_parts,
)

ASKED = (chains, apart)


def is_order(order):
    return all(
        name not in order[name] and all(third in order[name] for second in order[name] for third in order[second])
        for name in order
    )


def orders_of(names, pairs):
    """Every dict of these names whose lists hold some of these pairs."""
    for chosen in itertools.product((False, True), repeat=len(pairs)):
        order = {name: [] for name in names}
        for (one, other), taken in zip(pairs, chosen):
            if taken:
                order[one].append(other)
        yield order


def random_order(source, count):
    names = [f"n{number}" for number in range(count)]
    source.shuffle(names)
    order = {name: [] for name in names}
    for place in reversed(range(count)):
        for later in names[place + 1:]:
            if source.random() < 0.25:
                order[names[place]] += [later] + order[later]
        order[names[place]] = sorted(set(order[names[place]]), key=lambda name: source.random())
    keys = list(names)
    source.shuffle(keys)
    return {name: order[name] for name in keys}


class ChainsCase(Case):
    def assert_answers(self, order):
        """Chains and names apart hold and are as many, so that neither could be better."""
        before = copy.deepcopy(order)
        told, names = chains(order), apart(order)
        self.assertEqual((type(told), type(names)), (list, list))
        self.assertEqual(sorted(name for chain in told for name in chain), sorted(order))
        for chain in told:
            self.assertIs(type(chain), list)
            self.assertGreaterEqual(len(chain), 1)
            for earlier, later in zip(chain, chain[1:]):
                self.assertIn(later, order[earlier])
        self.assertEqual(len(set(names)), len(names))
        self.assertLessEqual(set(names), set(order))
        self.assertTrue(are_apart(order, names))
        self.assertEqual(len(names), len(told))
        self.assertEqual((order, list(order)), (before, list(before)))
        return len(told)

    def assert_as_a_plain_search(self, order):
        count = self.assert_answers(order)
        self.assertEqual(count, plain_fewest_chains(order))
        self.assertEqual(count, plain_most_apart(order))


class Errors(ChainsCase):
    def test_classes(self):
        self.assert_error_classes(module, {"Ring": ["name"], "NotOrdered": ["first", "second", "third"]})


class Refusals(ChainsCase):
    def assert_refused_by_both(self, kind, fields, order):
        for ask in ASKED:
            self.assert_refused(kind, fields, ask, order)

    def error_of(self, ask, order):
        with self.assertRaises(FleetError) as caught:
            ask(order)
        return caught.exception

    def test_too_many_names(self):
        self.assertEqual(self.assert_answers({f"n{number}": [] for number in range(40)}), 40)
        self.assert_refused_by_both(TooMany, {"most": 40}, {f"n{number}": [] for number in range(41)})

    def test_too_long_lists(self):
        self.assertEqual(self.assert_answers({"a": ["b"] * 40, "b": []}), 1)
        self.assert_refused_by_both(TooMany, {"most": 40}, {"a": ["b"] * 41, "b": []})

    def test_strangers(self):
        self.assert_refused_by_both(NoTrip, {"name": "x"}, {"a": ["b", "x"], "b": []})
        self.assert_refused_by_both(NoTrip, {"name": ""}, {"a": [""]})
        self.assert_refused_by_both(NoTrip, {"name": "A B\n"}, {"a": [], "b": ["A B\n", "a"]})
        for ask in ASKED:
            error = self.error_of(ask, {"a": ["y", "x"], "b": ["z"]})
            self.assertIs(type(error), NoTrip)
            self.assertIn(error.name, ("x", "y", "z"))

    def test_rings(self):
        self.assert_refused_by_both(Ring, {"name": "a"}, {"a": ["a"]})
        self.assert_refused_by_both(Ring, {"name": "b"}, {"a": ["b"], "b": ["b"]})
        self.assert_refused_by_both(Ring, {"name": "b"}, {"a": [], "b": ["a", "b", "b"]})

    def test_not_ordered(self):
        order = {"a": ["b"], "b": ["c"], "c": []}
        self.assert_refused_by_both(NotOrdered, {"first": "a", "second": "b", "third": "c"}, order)
        order = {"c": [], "b": ["c", "c"], "a": ["b", "b"], "d": ["a", "b", "c"]}
        self.assert_refused_by_both(NotOrdered, {"first": "a", "second": "b", "third": "c"}, order)

    def test_the_third_is_the_first(self):
        for ask in ASKED:
            error = self.error_of(ask, {"a": ["b"], "b": ["a"]})
            self.assertIs(type(error), NotOrdered)
            told = (error.first, error.second, error.third)
            self.assertIn(told, (("a", "b", "a"), ("b", "a", "b")))

    def test_several_at_once(self):
        great = {f"n{number}": [] for number in range(41)}
        self.assert_refused_by_both(TooMany, {"most": 40}, great | {"n0": ["x", "n0", "n1"], "n1": ["n2"]})
        self.assert_refused_by_both(TooMany, {"most": 40}, {"a": ["x"], "b": ["b"], "c": ["b"] * 41})
        self.assert_refused_by_both(NoTrip, {"name": "x"}, {"a": ["a"], "b": ["c"], "c": ["d"], "d": ["x"]})
        self.assert_refused_by_both(NoTrip, {"name": "x"}, {"a": ["a", "x"]})
        self.assert_refused_by_both(Ring, {"name": "d"}, {"a": ["b"], "b": ["c"], "c": [], "d": ["d"]})
        self.assert_refused_by_both(Ring, {"name": "b"}, {"a": ["b"], "b": ["a", "b"]})

    def assert_rightly_refused(self, order):
        for ask in ASKED:
            error = self.error_of(ask, order)
            if any(name in order[name] for name in order):
                self.assertIs(type(error), Ring)
                self.assertIn(error.name, order[error.name])
            else:
                self.assertIs(type(error), NotOrdered)
                self.assertIn(error.second, order[error.first])
                self.assertIn(error.third, order[error.second])
                self.assertNotIn(error.third, order[error.first])

    def test_all_dicts_of_three_names(self):
        for order in orders_of("abc", list(itertools.product("abc", repeat=2))):
            if is_order(order):
                self.assert_as_a_plain_search(order)
            else:
                self.assert_rightly_refused(order)

    def test_all_dicts_of_four_names_none_behind_itself(self):
        for order in orders_of("abcd", list(itertools.permutations("abcd", 2))):
            if is_order(order):
                self.assert_as_a_plain_search(order)
            else:
                self.assert_rightly_refused(order)


class Answers(ChainsCase):
    def test_of_no_names(self):
        self.assertEqual((chains({}), apart({})), ([], []))

    def test_one_name(self):
        self.assertEqual((chains({"a": []}), apart({"a": []})), ([["a"]], ["a"]))

    def test_one_chain(self):
        order = {"c": [], "a": ["c", "b"], "b": ["c"]}
        self.assertEqual(chains(order), [["a", "b", "c"]])
        self.assertEqual(len(apart(order)), 1)

    def test_doubles_and_texts_that_are_no_names(self):
        order = {"A b": ["", "", "\n", "\n"], "": ["\n"], "\n": [], "x" * 50: ["\n", "\n"]}
        self.assertEqual(self.assert_answers(order), 2)

    def test_random_orders_against_a_plain_search(self):
        source = random.Random(35)
        for _ in range(120):
            self.assert_as_a_plain_search(random_order(source, source.randint(0, 6)))

    def test_great_orders(self):
        source = random.Random(36)
        for _ in range(30):
            self.assert_answers(random_order(source, 40))
        names = [f"n{number}" for number in range(40)]
        self.assertEqual(self.assert_answers({names[place]: names[place + 1:] for place in range(40)}), 1)


class Cars(ChainsCase):
    """The fewest cars of a table, with lengths reckoned here."""

    def plain_links(self, places, ways, trips):
        heights = {place: plain_heights(place, ways) for place in places}
        return {
            one[0]: [other[0] for other in trips if plain_linked(heights, one, other)]
            for one in trips
        }

    def test_small_tables_against_a_plain_search(self):
        source = random.Random(37)
        for _ in range(120):
            places, ways = random_roads(source, 4, 9, 6)
            trips = random_table_parts(source, places, ways, source.randint(0, 6), 25)
            told = links(Table(Roads(places, ways), trips))
            plain = self.plain_links(places, ways, trips)
            self.assertEqual({name: sorted(told[name]) for name in told}, {name: sorted(plain[name]) for name in plain})
            count = self.assert_answers(told)
            self.assertEqual(count, plain_fewest_chains(plain))
            self.assertEqual(count, plain_most_apart(plain))

    def test_tables_of_forty_trips(self):
        source = random.Random(38)
        for latest in (0, 40, 200, 2000):
            places, ways = random_roads(source, 5, 12, 9)
            trips = random_table_parts(source, places, ways, 40, latest)
            told = links(Table(Roads(places, ways), trips))
            plain = self.plain_links(places, ways, trips)
            count = len(chains(told))
            self.assertEqual(self.assert_answers(told), count)
            self.assertTrue(are_apart(plain, apart(told)))
            for chain in chains(told):
                for earlier, later in zip(chain, chain[1:]):
                    self.assertIn(later, plain[earlier])


class Kept(ChainsCase):
    def test_changing_what_was_handed_in_or_told(self):
        order = {"a": ["b"], "b": [], "c": []}
        told, names = chains(order), apart(order)
        order["b"].append("c")
        order["a"].append("c")
        self.assertEqual(sorted(told), [["a", "b"], ["c"]])
        self.assertEqual(len(names), 2)
        self.assertEqual(chains(order), [["a", "b", "c"]])
        chains(order)[0].clear()
        chains(order).clear()
        apart(order).clear()
        self.assertEqual(chains(order), [["a", "b", "c"]])
        self.assertEqual(len(apart(order)), 1)
        self.assertEqual(order, {"a": ["b", "c"], "b": ["c"], "c": []})

    def test_asking_in_another_order(self):
        order = {"a": ["c"], "b": ["c", "d"], "c": [], "d": []}
        for asked in ((chains, apart), (apart, chains), (chains, chains), (apart, apart)):
            for ask in asked:
                self.assertEqual(len(ask(order)), 2)
            self.assertEqual(self.assert_answers(order), 2)

    def test_refused_orders_stay(self):
        order = {"a": ["b", "b"], "b": ["a"]}
        for ask in ASKED:
            with self.assertRaises(NotOrdered):
                ask(order)
        self.assertEqual(order, {"a": ["b", "b"], "b": ["a"]})
