import copy
import itertools
import math
import random
from fractions import Fraction

from fleetpath import crews
from fleetpath.crews import NoDuty, bounds, crew, greedy, priced
from fleetpath.duties import lawful
from fleetpath.errors import NoTrip, TooMany, Twice
from fleetpath.hours import Span
from fleetpath.shares import even, fitting
from tests.helper import Case, exact, outcome, partitions, plain_weight, random_office, subsets

ASKED = (greedy, priced, crew, bounds)
FORTY = [f"n{number}" for number in range(40)]


def plain_refusal(names, rows):
    if len(names) > 40:
        return (TooMany, {"most": 40})
    if len(rows) > 400:
        return (TooMany, {"most": 400})
    for place, name in enumerate(names):
        if name in names[:place]:
            return (Twice, {"name": name})
    for row in rows:
        for place, name in enumerate(row):
            if name not in names:
                return (NoTrip, {"name": name})
            if name in row[:place]:
                return (Twice, {"name": name})
    for name in names:
        if not any(name in row for row in rows):
            return (NoDuty, {"name": name})
    return None


def plain_greedy(names, rows):
    picks, lacking = [], set(names)
    while lacking:
        most = max(len(lacking & set(row)) for row in rows)
        row = [row for row in rows if len(lacking & set(row)) == most][0]
        picks.append([name for name in row if name in lacking])
        lacking -= set(row)
    return picks


def plain_fewest(names, rows):
    """As few parts as the names can be parted into, each part within a row."""
    sets = [set(row) for row in rows]
    return min(
        len(parts) for parts in partitions(list(names)) if all(any(set(part) <= row for row in sets) for part in parts)
    )


def harmonic(many):
    return sum((Fraction(1, number) for number in range(1, many + 1)), Fraction(0))


def total(shares):
    return sum((Fraction(*share) for share in shares.values()), Fraction(0))


def random_rows(source, names, count, most):
    """Rows in which each of the names stands."""
    rows = [source.sample(names, source.randint(0, min(most, len(names)))) for _ in range(count)]
    for name in names:
        if not any(name in row for row in rows):
            short = [row for row in rows if len(row) < most]
            if short and source.random() < 0.8:
                source.choice(short).append(name)
            else:
                rows.append([name])
    source.shuffle(rows)
    return rows


def some_crews(seed, rounds, least, greatest, most):
    source = random.Random(seed)
    for _ in range(rounds):
        names = [f"n{number}" for number in range(source.randint(least, greatest))]
        source.shuffle(names)
        yield names, random_rows(source, names, source.randint(1, 2 * len(names) + 2), most)


class CrewsCase(Case):
    def assert_duties(self, names, rows, duties):
        self.assertIs(type(duties), list)
        self.assertEqual(sorted(name for duty in duties for name in duty), sorted(names))
        for duty in duties:
            self.assertIs(type(duty), list)
            self.assertGreaterEqual(len(duty), 1)
            self.assertTrue(any(duty == [name for name in row if name in duty] for row in rows))
        self.assertLessEqual(len(duties), len(plain_greedy(names, rows)))
        if len(names) <= 8:
            self.assertEqual(len(duties), plain_fewest(names, rows))

    def assert_prices(self, names, rows, prices):
        self.assertEqual((type(prices), set(prices)), (dict, set(names)))
        whole = harmonic(max([len(row) for row in rows], default=0))
        for pick in plain_greedy(names, rows):
            for name in pick:
                price = Fraction(1, len(pick)) / whole
                self.assertEqual(prices[name], (price.numerator, price.denominator))
        self.assertTrue(all(plain_weight(prices, row) <= 1 for row in rows))
        self.assertIs(fitting(prices, rows), True)

    def assert_bounds(self, names, rows, told):
        self.assertIs(type(told), tuple)
        low, high, duties, shares = told
        self.assert_duties(names, rows, duties)
        self.assertEqual(high, len(duties))
        self.assertEqual((type(shares), set(shares)), (dict, set(names)))
        for name, share in shares.items():
            self.assertEqual(share, exact(*share))
            self.assertGreaterEqual(share[0], 0)
            self.assertTrue(any(name in row and plain_weight(shares, row) == 1 for row in rows))
        self.assertTrue(all(plain_weight(shares, row) <= 1 for row in rows))
        self.assertGreaterEqual(total(shares), total(priced(names, rows)))
        self.assertGreaterEqual(total(shares), total(even(rows)))
        self.assertEqual((low, type(low)), (math.ceil(total(shares)), int))
        self.assertLessEqual(low, high)
        self.assertLessEqual(high, harmonic(max([len(row) for row in rows], default=0)) * total(shares))

    def assert_all(self, names, rows):
        before = copy.deepcopy((names, rows))
        self.assertEqual(greedy(names, rows), plain_greedy(names, rows))
        self.assert_prices(names, rows, priced(names, rows))
        self.assert_duties(names, rows, crew(names, rows))
        self.assert_bounds(names, rows, bounds(names, rows))
        self.assertEqual((names, rows), before)


class Errors(CrewsCase):
    def test_classes_and_bounds(self):
        self.assert_error_classes(crews, {"NoDuty": ["name"]})
        self.assertEqual((crews.MOST_NAMES, crews.MOST_ROWS, crews.FEW), (40, 400, 8))


class Refusals(CrewsCase):
    def refused(self, kind, fields, names, rows):
        for ask in ASKED:
            self.assert_refused(kind, fields, ask, names, rows)
        self.assertEqual(plain_refusal(names, rows), (kind, fields))

    def test_too_many_names(self):
        names = FORTY + ["n40"]
        self.refused(TooMany, {"most": 40}, names, [names])
        self.refused(TooMany, {"most": 40}, ["a"] * 41, [["x", "x"]] * 401)
        self.assertEqual(greedy(FORTY, [FORTY]), [FORTY])

    def test_too_many_rows(self):
        self.refused(TooMany, {"most": 400}, ["a"], [["a"]] * 401)
        self.refused(TooMany, {"most": 400}, [], [[]] * 401)
        self.refused(TooMany, {"most": 400}, ["a", "a"], [["x"]] * 401)
        self.assertEqual(greedy(["a"], [["a"]] * 400), [["a"]])
        self.assertEqual(greedy([], [[]] * 400), [])

    def test_names_twice(self):
        self.refused(Twice, {"name": "a"}, ["a", "a"], [["a"]])
        self.refused(Twice, {"name": "b"}, ["a", "b", "c", "b", "a"], [["x"], ["a", "a"]])
        self.refused(Twice, {"name": ""}, ["", "a", ""], [])

    def test_row_by_row(self):
        self.refused(NoTrip, {"name": "x"}, ["a", "b"], [["a"], ["b", "x", "a", "a"], ["y"]])
        self.refused(Twice, {"name": "a"}, ["a", "b"], [["a", "b", "a", "x"], ["y"]])
        self.refused(Twice, {"name": "b"}, ["a", "b", "c"], [["b", "a"], ["a", "b", "b", "a"], ["x"]])
        self.refused(NoTrip, {"name": "x"}, ["a", "b"], [["x", "x"]])
        self.refused(NoTrip, {"name": "x"}, [], [[], ["x"]])
        self.refused(NoTrip, {"name": "A b\n"}, ["a"], [["a"], ["A b\n"]])
        self.refused(Twice, {"name": "a"}, ["a", "b"], [["a", "a"], ["x", "x"]])

    def test_names_in_no_row(self):
        self.refused(NoDuty, {"name": "a"}, ["a"], [])
        self.refused(NoDuty, {"name": "b"}, ["a", "b", "c"], [["a"], []])
        self.refused(NoDuty, {"name": "c"}, ["c", "b", "a"], [["a"]])
        self.refused(NoTrip, {"name": "x"}, ["b", "a"], [["a"], ["x"]])
        self.refused(Twice, {"name": "a"}, ["b", "a"], [["a", "a"]])

    def test_against_plain_refusals(self):
        source = random.Random(64)
        seen = []
        for _ in range(1500):
            names = source.choices("abcdefghij", k=source.randint(0, 4))
            if source.random() < 0.8:
                names = list(dict.fromkeys(names))
            rows = [
                source.choices(names + ["x"][:source.random() < 0.1], k=source.randint(0, 3))
                for _ in range(source.randint(0, 4)) if names
            ]
            if source.random() < 0.7:
                rows = [list(dict.fromkeys(row)) for row in rows]
            expected = plain_refusal(names, rows)
            if expected:
                for ask in ASKED:
                    self.assertEqual(outcome(ask, names, rows), expected)
                seen.append(expected[0])
            else:
                self.assert_all(names, rows)
                seen.append(None)
        for kind in (Twice, NoTrip, NoDuty, None):
            self.assertGreater(seen.count(kind), 40)


class Greedy(CrewsCase):
    def test_ties_by_the_first_row(self):
        self.assertEqual(greedy(["a", "b", "c", "d"], [["b", "a"], ["a", "c"], ["d", "c"]]), [["b", "a"], ["d", "c"]])
        self.assertEqual(greedy(["a", "b"], [["b"], ["a"], ["a", "b"], ["b", "a"]]), [["a", "b"]])
        self.assertEqual(greedy(["a", "b", "c"], [["a"], ["c"], ["b"]]), [["a"], ["c"], ["b"]])

    def test_names_that_were_had_do_not_count(self):
        rows = [["a", "b", "c"], ["c", "b", "d"], ["d", "e"]]
        self.assertEqual(greedy(["a", "b", "c", "d", "e"], rows), [["a", "b", "c"], ["d", "e"]])
        rows = [["a", "b"], ["c", "a", "d", "b"], ["b", "e"]]
        self.assertEqual(greedy(["e", "d", "c", "b", "a"], rows), [["c", "a", "d", "b"], ["e"]])

    def test_no_names(self):
        for rows in ([], [[]], [[], []]):
            self.assertEqual(greedy([], rows), [])
            self.assertEqual(priced([], rows), {})
            self.assertEqual(crew([], rows), [])
            self.assertEqual(bounds([], rows), (0, 0, [], {}))

    def test_texts_that_are_no_names(self):
        self.assert_all(["", "A b", "\n", "x" * 40], [["\n", ""], [], ["A b", "x" * 40, ""]])


class Prices(CrewsCase):
    def test_known_prices(self):
        self.assertEqual(priced(["a"], [["a"]]), {"a": (1, 1)})
        self.assertEqual(priced(["a", "b"], [["a", "b"]]), {"a": (1, 3), "b": (1, 3)})
        self.assertEqual(priced(["a", "b", "c"], [["a", "b"], ["c"], []]), {"a": (1, 3), "b": (1, 3), "c": (2, 3)})
        self.assertEqual(priced(["a", "b", "c"], [["a", "b", "c"]]), {name: (2, 11) for name in "abc"})

    def test_together_they_are_the_picks_parted_by_the_harmonic_sum(self):
        for names, rows in some_crews(65, 60, 1, 20, 7):
            longest = max(len(row) for row in rows)
            self.assertEqual(total(priced(names, rows)) * harmonic(longest), len(greedy(names, rows)))


class Crews(CrewsCase):
    def test_fewer_than_greedy(self):
        names = list("abcdef")
        rows = [list("abcd"), list("ace"), list("bdf")]
        self.assertEqual(len(greedy(names, rows)), 3)
        self.assertEqual(sorted(crew(names, rows)), [list("ace"), list("bdf")])
        self.assertEqual(bounds(names, rows)[1], 2)

    def test_eight_names_fewer_than_greedy(self):
        names = list("abcdefgh")
        rows = [list("abefg"), list("abcd"), list("efgh"), list("c"), list("dh")]
        self.assertGreater(len(greedy(names, rows)), 2)
        self.assertEqual(sorted(crew(names, rows)), [list("abcd"), list("efgh")])

    def test_the_order_of_a_row(self):
        self.assertEqual(crew(["a", "b", "c"], [["c", "a", "b"]]), [["c", "a", "b"]])
        for names in itertools.permutations("abcd"):
            rows = [["d", "b", "a"], ["c", "a", "b"]]
            self.assert_duties(list(names), rows, crew(list(names), rows))

    def test_all_rows_of_three_names(self):
        choices = [list(row) for size in range(4) for row in itertools.permutations("abc", size)]
        for rows in itertools.combinations(choices, 2):
            if set(rows[0]) | set(rows[1]) == set("abc"):
                self.assert_all(list("abc"), list(rows))

    def test_all_rows_of_four_names(self):
        choices = [list(row) for row in subsets("abcd")]
        for rows in itertools.combinations(choices, 4):
            if set().union(*rows) == set("abcd"):
                self.assert_all(list("bdac"), list(rows))

    def test_up_to_seven_names(self):
        for names, rows in some_crews(66, 150, 0, 7, 4):
            self.assert_all(names, rows)

    def test_eight_names(self):
        for most in (2, 3, 5, 8):
            for names, rows in some_crews(67 + most, 8, 8, 8, most):
                self.assert_all(names, rows)

    def test_eight_names_and_four_hundred_rows(self):
        source = random.Random(68)
        names = list("abcdefgh")
        rows = [source.sample(names, 2 + (number % 3 == 0)) for number in range(400)]
        self.assert_all(names, rows)
        self.assert_all(names, [list(row) for row in subsets(names)])

    def test_beyond_eight_names(self):
        for least, greatest, most in ((9, 9, 3), (9, 14, 5), (20, 40, 5), (40, 40, 40), (30, 40, 1)):
            for names, rows in some_crews(69 + greatest + most, 25, least, greatest, most):
                self.assert_all(names, rows)

    def test_as_much_as_can_be(self):
        source = random.Random(70)
        self.assert_all(FORTY, [source.sample(FORTY, 40) for _ in range(400)])
        self.assert_all(FORTY, random_rows(source, FORTY, 355, 5))
        self.assert_all(FORTY, [FORTY[place:] for place in range(40)] + [[name] for name in FORTY])
        mixed = [source.sample(FORTY, source.randint(1, 40)) for _ in range(360)]
        self.assert_all(FORTY, mixed + [[name] for name in FORTY])


class Bounds(CrewsCase):
    def test_known_bounds(self):
        self.assertEqual(bounds(["a"], [["a"]]), (1, 1, [["a"]], {"a": (1, 1)}))
        low, high, duties, shares = bounds(["a", "b", "c"], [["a", "b"], ["b", "c"], ["c", "a"]])
        self.assertEqual((low, high, len(duties)), (2, 2, 2))
        self.assertEqual(shares, {name: (1, 2) for name in "abc"})

    def test_where_even_shares_are_more_than_prices(self):
        for names, rows in some_crews(71, 40, 4, 12, 4):
            self.assertGreater(total(even(rows)), total(priced(names, rows)))
            self.assert_bounds(names, rows, bounds(names, rows))

    def test_where_prices_are_more_than_even_shares(self):
        # All rows are long, but behind the first pick each has but one name left.
        shared, own = FORTY[:9], FORTY[9:20]
        rows = [shared + [name] for name in own]
        for names in (shared + own, own + shared):
            self.assertEqual((total(even(rows)), len(greedy(names, rows))), (2, 11))
            self.assertGreater(total(priced(names, rows)), 3)
            self.assert_all(names, rows)

    def test_no_fewer_duties_than_low(self):
        for names, rows in some_crews(72, 100, 1, 7, 4):
            self.assertLessEqual(bounds(names, rows)[0], plain_fewest(names, rows))

    def test_duties_of_tables(self):
        source = random.Random(73)
        asked = 0
        for _ in range(80):
            office = random_office(source, most_places=2, most_ways=8, count=source.randint(1, 7), latest=45)
            home = source.choice(office.places)
            rows = outcome(lawful, office.table, home, Span(40))
            if type(rows) is list:
                told = bounds(office.table.names(), rows)
                self.assert_bounds(office.table.names(), rows, told)
                for duty in told[2]:
                    self.assertIn(duty, rows)
                asked += 1
        self.assertGreater(asked, 20)


class Kept(CrewsCase):
    def test_changing_what_was_handed_in_or_told(self):
        for names in (list("abcdef"), list("abcdefghijk")):
            rows = [names[:4], names[2:], list("ace"), []]
            for ask in ASKED:
                told = ask(names, rows)
                kept = copy.deepcopy(told)
                rows[0].append("z")
                names.append("z")
                self.assertEqual(told, kept)
                names.pop()
                rows[0].pop()
                self.spoil(ask(names, rows))
                self.assertEqual(rows, [names[:4], names[2:], list("ace"), []])
                self.assert_all(names, rows)

    def spoil(self, told):
        parts = list(told[2:]) if type(told) is tuple else [told]
        for part in parts:
            if type(part) is list:
                for duty in part:
                    duty.append("q")
            part.clear()

    def test_asking_in_another_order(self):
        names, rows = list("abcdef"), [list("abcd"), list("ace"), list("bdf")]
        for asked in itertools.permutations(ASKED):
            for ask in asked:
                ask(names, rows)
            self.assert_all(names, rows)
