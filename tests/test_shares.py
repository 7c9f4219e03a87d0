import copy
import itertools
import random
from fractions import Fraction

from fleetpath import shares as module
from fleetpath.errors import NoTrip
from fleetpath.shares import BadShare, Overfull, even, fitting, raised, weight
from tests.helper import Case, exact, outcome, plain_weight, subsets

HALVES = {"a": (1, 2), "b": (1, 2), "c": (1, 3), "d": (0, 1)}


def stranger(shares, rows):
    for row in rows:
        for name in row:
            if name not in shares:
                return (NoTrip, {"name": name})
    return None


def random_rows(source, names, most):
    return [source.sample(names, source.randint(0, len(names))) for _ in range(source.randint(0, most))]


class Errors(Case):
    def test_classes(self):
        self.assert_error_classes(module, {"BadShare": ["name"], "Overfull": ["row"]})


class Weights(Case):
    def test_known_weights(self):
        for row, told in (
            ([], (0, 1)), (["a"], (1, 2)), (["a", "b"], (1, 1)), (["c", "a", "b"], (4, 3)), (["d"], (0, 1)),
        ):
            self.assertEqual(weight(HALVES, row), told)
        self.assertEqual(weight({"a": (-1, 2), "b": (1, 6)}, ["a", "b"]), (-1, 3))
        self.assertEqual(weight({}, []), (0, 1))

    def test_names_without_a_share(self):
        self.assert_refused(NoTrip, {"name": "x"}, weight, HALVES, ["a", "x", "y"])
        self.assert_refused(NoTrip, {"name": "y"}, weight, HALVES, ["y", "x", "a"])
        self.assert_refused(NoTrip, {"name": ""}, weight, {}, [""])

    def test_against_exact_reckoning(self):
        source = random.Random(61)
        for _ in range(300):
            shares = {name: exact(source.randint(-9, 9), source.randint(1, 9)) for name in "abcdefgh"}
            row = source.sample("abcdefgh", source.randint(0, 8))
            total = plain_weight(shares, row)
            self.assertEqual(weight(shares, row), (total.numerator, total.denominator))

    def test_any_texts(self):
        self.assertEqual(weight({"A b": (1, 2), "": (1, 3)}, ["", "A b"]), (5, 6))


class Fitting(Case):
    def test_weights_at_one(self):
        self.assertIs(fitting({"a": (1, 2), "b": (1, 2)}, [["a", "b"]]), True)
        self.assertIs(fitting({"a": (1, 2), "b": (1, 2), "c": (1, 10 ** 99)}, [["a", "b"], ["a", "c"]]), True)
        self.assertIs(fitting({"a": (1, 2), "b": (1, 2), "c": (1, 10 ** 99)}, [["a"], ["a", "b", "c"]]), False)
        self.assertIs(fitting({"a": (1, 1)}, [["a"]]), True)
        self.assertIs(fitting({"a": (10 ** 99 + 1, 10 ** 99)}, [["a"]]), False)
        self.assertIs(fitting({"a": (10 ** 99 - 1, 10 ** 99)}, [["a"], []]), True)

    def test_names_in_no_row(self):
        self.assertIs(fitting({"a": (1, 1), "b": (7, 1)}, [["a"]]), True)
        self.assertIs(fitting({"a": (1, 1), "b": (-1, 10 ** 99)}, [["a"]]), False)
        self.assertIs(fitting({"b": (-1, 7)}, []), False)
        self.assertIs(fitting({"b": (0, 1)}, [[]]), True)
        self.assertIs(fitting({}, []), True)
        self.assertIs(fitting({}, [[], []]), True)

    def test_a_share_below_nought_within_a_light_row(self):
        self.assertIs(fitting({"a": (1, 1), "b": (-1, 2)}, [["a", "b"]]), False)

    def test_strangers_first(self):
        self.assert_refused(NoTrip, {"name": "x"}, fitting, {"a": (2, 1)}, [["a"], ["x"], ["y"]])
        self.assert_refused(NoTrip, {"name": "y"}, fitting, {"a": (-2, 1)}, [["a"], [], ["y", "x"], ["x"]])
        self.assert_refused(NoTrip, {"name": "x"}, fitting, {}, [["x"]])

    def test_against_exact_reckoning(self):
        source = random.Random(62)
        seen = []
        for _ in range(800):
            shares = {name: exact(source.choice((-1, 0, 0, 1, 1, 2, 3, 4, 5)), 6) for name in "abcdefghij"}
            names = "abcde" + "xy"[:source.choice((0, 0, 0, 1, 2))]
            rows = random_rows(source, names, 3)
            before = copy.deepcopy((shares, rows))
            expected = stranger(shares, rows)
            if expected is None:
                expected = all(share[0] >= 0 for share in shares.values())
                expected = expected and all(plain_weight(shares, row) <= 1 for row in rows)
            told = outcome(fitting, shares, rows)
            self.assertEqual((told, type(told)), (expected, type(expected)))
            self.assertEqual((shares, rows), before)
            seen.append(expected if type(expected) is bool else None)
        self.assertEqual(set(seen), {True, False, None})


class Even(Case):
    def test_known_shares(self):
        self.assertEqual(even([]), {})
        self.assertEqual(even([[], []]), {})
        self.assertEqual(even([["a"]]), {"a": (1, 1)})
        self.assertEqual(even([["a", "b"], ["b", "c", "d"], ["d"], []]), {
            "a": (1, 2), "b": (1, 3), "c": (1, 3), "d": (1, 3),
        })
        self.assertEqual(even([["b", "c", "d"], ["a", "b"]])["b"], (1, 3))

    def test_all_small_rows(self):
        for rows in itertools.combinations_with_replacement([list(row) for row in subsets("abc")], 3):
            told = even(list(rows))
            self.assertEqual(set(told), {name for row in rows for name in row})
            for name in told:
                self.assertEqual(told[name], (1, max(len(row) for row in rows if name in row)))
            self.assertTrue(all(plain_weight(told, row) <= 1 for row in rows))
            self.assertIs(fitting(told, list(rows)), True)

    def test_long_rows(self):
        names = [f"n{number}" for number in range(40)]
        told = even([names, names[:7]])
        self.assertEqual(told, {name: (1, 40) for name in names})


class Raised(Case):
    def assert_raised(self, shares, rows):
        before = copy.deepcopy((shares, rows))
        told = raised(shares, rows)
        self.assertEqual((shares, rows), before)
        self.assertEqual((type(told), set(told)), (dict, set(shares)))
        in_rows = {name for row in rows for name in row}
        for name, share in told.items():
            self.assertEqual(share, exact(*share))
            self.assertGreaterEqual(Fraction(*share), Fraction(*shares[name]))
            if name in in_rows:
                self.assertTrue(any(name in row and plain_weight(told, row) == 1 for row in rows))
            else:
                self.assertEqual(share, shares[name])
        self.assertTrue(all(plain_weight(told, row) <= 1 for row in rows))
        self.assertIs(fitting(told, rows), True)
        return told

    def test_known_shares(self):
        self.assertEqual(raised({}, []), {})
        self.assertEqual(raised({}, [[], []]), {})
        self.assertEqual(raised({"a": (0, 1)}, [["a"]]), {"a": (1, 1)})
        self.assertEqual(raised({"a": (0, 1), "b": (2, 3)}, [["a", "b"], ["b"]]), {"a": (1, 3), "b": (2, 3)})
        self.assertEqual(raised({"a": (1, 1), "b": (0, 1)}, [["a", "b"]]), {"a": (1, 1), "b": (0, 1)})

    def test_names_in_no_row_stay(self):
        shares = {"a": (0, 1), "b": (7, 2), "c": (0, 1), "": (1, 3)}
        self.assertEqual(raised(shares, [["a"]]), {"a": (1, 1), "b": (7, 2), "c": (0, 1), "": (1, 3)})
        self.assertEqual(raised(shares, []), shares)

    def test_shares_of_nought(self):
        source = random.Random(63)
        for _ in range(200):
            self.assert_raised({name: (0, 1) for name in "abcdef"}, random_rows(source, "abcde", 5))

    def test_shares_that_fit(self):
        source = random.Random(64)
        told = 0
        for _ in range(1500):
            shares = {name: exact(source.randint(0, 5), source.randint(5, 12)) for name in "abcdef"}
            rows = [row[:3] for row in random_rows(source, "abcde", 4)]
            if all(plain_weight(shares, row) <= 1 for row in rows):
                self.assert_raised(shares, rows)
                told += 1
        self.assertGreater(told, 200)

    def test_even_shares(self):
        source = random.Random(65)
        names = [f"n{number}" for number in range(40)]
        for _ in range(10):
            rows = [source.sample(names, source.randint(0, 7)) for _ in range(60)]
            self.assert_raised(even(rows), rows)

    def test_many_figures(self):
        great = {"a": exact(1, 10 ** 299), "b": exact(1, 10 ** 299 + 1), "c": exact(1, 3 ** 500), "d": (0, 1)}
        self.assert_raised(great, [["a", "b"], ["b", "c"], ["c", "a", "d"]])


class RaisedRefusals(Case):
    def test_each_alone(self):
        self.assert_refused(NoTrip, {"name": "x"}, raised, {"a": (1, 2)}, [["a"], ["a", "x", "y"], ["z"]])
        self.assert_refused(BadShare, {"name": "a"}, raised, {"a": (-1, 2), "b": (1, 2)}, [["a", "b"]])
        self.assert_refused(BadShare, {"name": "b"}, raised, {"a": (1, 2), "b": (-1, 10 ** 99)}, [["a"]])
        self.assert_refused(BadShare, {"name": "b"}, raised, {"b": (-1, 2)}, [])
        shares = {"a": (1, 2), "b": (1, 2), "c": (1, 10 ** 99)}
        rows = [["a", "b"], ["c", "a", "b"], ["b", "a", "c"]]
        self.assert_refused(Overfull, {"row": ["c", "a", "b"]}, raised, shares, rows)

    def test_several_bad_shares(self):
        with self.assertRaises(BadShare) as caught:
            raised({"a": (-1, 2), "b": (1, 1), "c": (-1, 3)}, [["a", "b"]])
        self.assertIn(caught.exception.name, ("a", "c"))

    def test_several_at_once(self):
        shares = {"a": (2, 1), "b": (-1, 2)}
        self.assert_refused(NoTrip, {"name": "x"}, raised, shares, [["a"], ["b"], ["x"]])
        self.assert_refused(BadShare, {"name": "b"}, raised, shares, [["a"]])
        self.assert_refused(BadShare, {"name": "b"}, raised, shares, [["a"], ["b"]])
        shares = {"a": (2, 1), "b": (1, 2)}
        self.assert_refused(NoTrip, {"name": "x"}, raised, shares, [["a"], ["b", "x"]])
        self.assert_refused(Overfull, {"row": ["b", "a"]}, raised, shares, [["b"], ["b", "a"], ["a"]])

    def test_overfull_keeps_no_list_that_was_handed_in(self):
        row = ["a"]
        with self.assertRaises(Overfull) as caught:
            raised({"a": (2, 1)}, [row])
        self.assertEqual(type(caught.exception.row), list)
        caught.exception.row.append("x")
        self.assertEqual(row, ["a"])

    def test_against_exact_reckoning(self):
        source = random.Random(66)
        seen = []
        for _ in range(800):
            shares = {name: exact(source.choice((0, 0, 1, 1, 2, 3, 4)), 6) for name in "abcdefg"}
            if source.random() < 0.2:
                shares[source.choice("abcdefg")] = (-1, 3)
            rows = random_rows(source, "abcde" + "xy"[:source.choice((0, 0, 0, 0, 1))], 3)
            told = outcome(raised, shares, rows)
            expected = self.plain_refusal(shares, rows)
            if expected:
                self.assertEqual(told, expected)
                seen.append(expected[0])
            else:
                self.assertIs(type(told), dict)
        self.assertEqual(set(seen), {NoTrip, BadShare, Overfull})

    def plain_refusal(self, shares, rows):
        refusal = stranger(shares, rows)
        bad = [name for name, share in shares.items() if share[0] < 0]
        heavy = [row for row in rows if not refusal and plain_weight(shares, row) > 1]
        if refusal:
            return refusal
        if bad:
            return (BadShare, {"name": bad[0]})
        if heavy:
            return (Overfull, {"row": heavy[0]})
        return None


class Kept(Case):
    def test_changing_what_was_handed_in_or_told(self):
        shares, rows = {"a": (1, 3), "b": (1, 3), "c": (0, 1)}, [["a", "b"], ["b"]]
        told, spread = raised(shares, rows), even(rows)
        kept = (dict(told), dict(spread))
        rows[0].append("c")
        shares["d"] = (1, 2)
        self.assertEqual((told, spread), kept)
        raised(shares, rows).clear()
        even(rows).clear()
        told["a"] = (9, 1)
        self.assertEqual(even(rows), {"a": (1, 3), "b": (1, 3), "c": (1, 3)})
        self.assertEqual(shares, {"a": (1, 3), "b": (1, 3), "c": (0, 1), "d": (1, 2)})
        self.assertEqual(rows, [["a", "b", "c"], ["b"]])
        for _ in range(2):
            self.assertIs(fitting(shares, rows), True)
            self.assertEqual(weight(shares, rows[0]), (2, 3))
            self.assertEqual(weight(raised(shares, rows), rows[0]), (1, 1))
