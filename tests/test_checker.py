import copy
import itertools
import math
import random
from fractions import Fraction

from fleetpath import checker as module
from fleetpath.blocks import cut
from fleetpath.care import Crowded, care
from fleetpath.chains import apart, chains
from fleetpath.checker import (
    bounds_hold, care_holds, cars_hold, crowd_holds, duties_hold, giving_holds, pieces_hold, shares_hold,
)
from fleetpath.crews import bounds
from fleetpath.duties import lawful
from fleetpath.errors import LIMIT, FleetError
from fleetpath.giving import give_cars
from fleetpath.hours import Pause, Rule, Shift, Span, Work
from fleetpath.links import links
from fleetpath.roads import Roads
from fleetpath.trips import Table
from tests.helper import (
    Case, Changes, Office, blocks_refusal, car_fits, changed_asks, cut_refusal, groups, lawful_refusal, listed_refusal,
    partitions, plain_fewest_chains, plain_lawful, plain_nights, random_office, random_weeks, some_rules,
)

PLACES = ["h", "p", "out", "in"]
WAYS = [("h", "p", 3), ("p", "h", 4), ("h", "out", 1), ("in", "h", 1)]
TRIPS = [("a", "p", "p", 10, 15, 2), ("b", "p", "p", 20, 24, 5), ("c", "h", "h", 40, 41, 0), ("d", "p", "p", 12, 13, 1)]
OFFICE = Office(PLACES, WAYS, TRIPS)
TABLE = OFFICE.table
STRANGERS = ["", "A b\n", "stranger"]


def straight(count):
    return Table(Roads(["h"], []), [(f"t{number}", "h", "h", number, number + 1, 0) for number in range(count)])


def each_once(office, lists):
    return sorted(itertools.chain(*lists)) == sorted(office.trips)


def plain_cars_hold(office, chains, apart):
    if [] in chains or not each_once(office, chains) or len(set(apart)) != len(apart):
        return False
    if not set(apart) <= set(office.trips) or len(apart) != len(chains):
        return False
    pairs = [pair for chain in chains for pair in zip(chain, chain[1:])]
    return all(office.linked(*pair) for pair in pairs) and not any(
        office.linked(*pair) for pair in itertools.permutations(apart, 2)
    )


def plain_pieces(office, home, names, limit):
    """The pieces one by one, each as long as it can be."""
    told = []
    while names:
        size = max(size for size in range(1, len(names) + 1) if office.driven(home, names[:size]) <= limit)
        told.append(names[:size])
        names = names[size:]
    return told


def plain_pieces_hold(office, home, names, limit, pieces):
    return cut_refusal(office, home, names, limit) is None and pieces == plain_pieces(office, home, names, limit)


def plain_giving_holds(office, home, blocks, cars, names):
    if blocks_refusal(office, home, blocks, cars) or len(blocks) != len(names) or len(set(names)) != len(names):
        return False
    by_name = {car[0]: car for car in cars}
    return all(name in by_name and car_fits(office, home, block, by_name[name]) for name, block in zip(names, blocks))


def weeks_refused(weeks, bays):
    bad = [load for week in weeks for load in week[3] if not 0 <= load <= LIMIT]
    return listed_refusal(weeks, {1: 0, 2: 1}) or bad or not 0 <= bays <= LIMIT


def needs(week):
    return sum(week[3], week[1]) > week[2]


def plain_care_holds(weeks, bays, told):
    if weeks_refused(weeks, bays) or sorted(told) != sorted(week[0] for week in weeks):
        return False
    nights = {week[0]: plain_nights(*week[1:]) if needs(week) else [None] for week in weeks}
    crowd = [night for night in told.values() if night is not None]
    return all(told[name] in nights[name] for name in told) and all(crowd.count(night) <= bays for night in crowd)


def plain_crowd_holds(weeks, bays, first, last, names):
    if weeks_refused(weeks, bays) or not 0 <= first <= last <= 6 or len(set(names)) != len(names):
        return False
    by_name = {week[0]: week for week in weeks}
    if not all(name in by_name and needs(by_name[name]) for name in names):
        return False
    nights = {night for name in names for night in plain_nights(*by_name[name][1:])}
    return nights <= set(range(first, last + 1)) and len(names) > bays * len(range(first, last + 1))


def plain_duties_hold(office, home, rule, duties):
    if home not in office.places or not each_once(office, duties):
        return False
    lawful_ones = plain_lawful(office, home, rule)
    return all(names in lawful_ones for names in duties)


def plain_shares_hold(office, home, rule, shares):
    if sorted(shares) != sorted(office.trips) or lawful_refusal(office, home, rule):
        return False
    if any(bottom < 1 or top < 0 or math.gcd(top, bottom) != 1 for top, bottom in shares.values()):
        return False
    rows = plain_lawful(office, home, rule)
    return len(rows) <= 400 and all(sum(Fraction(*shares[name]) for name in names) <= 1 for names in rows)


def plain_bounds_hold(office, home, rule, told):
    low, high, duties, shares = told
    if not plain_duties_hold(office, home, rule, duties) or not plain_shares_hold(office, home, rule, shares):
        return False
    return high == len(duties) and low == math.ceil(sum(Fraction(*share) for share in shares.values()))


class CheckerCase(Case):
    def assert_as_plain(self, asked, plain, told, office=None):
        """The checker tells what is plainly reckoned, and changes nothing."""
        before = copy.deepcopy(told)
        holds = asked(office.table, *told) if office else asked(*told)
        self.assertIs(holds, plain(office, *told) if office else plain(*told))
        self.assertEqual([part for part in told if not isinstance(part, Rule)],
                         [part for part in before if not isinstance(part, Rule)])
        return holds


class Cars(CheckerCase):
    def test_known_ones(self):
        for told, names, holds in (
            ([["a", "b", "c"], ["d"]], ["a", "d"], True), ([["d", "b"], ["a", "c"]], ["d", "a"], True),
            ([["a", "b"], ["d", "c"]], ["b", "d"], False), ([["a", "b", "c"], ["d"]], ["a"], False),
            ([["a", "b"], ["c"], ["d"]], ["a", "d"], False), ([["a", "b", "c"], ["d"], []], ["a", "d"], False),
            ([["a", "c", "b"], ["d"]], ["a", "d"], False), ([["a", "b", "c"]], ["a"], False),
            ([["a", "b", "c"], ["d", "d"]], ["a", "d"], False), ([["a", "b", "c"], ["d", "x"]], ["a", "d"], False),
            ([["a", "b", "c"], ["d"]], ["a", "a"], False), ([["a", "b", "c"], ["d"]], ["a", "x"], False),
            ([["a", "b", "c"], ["d"]], ["b", "c"], False), ([["a", "b", "c"], ["d"]], ["c", "b"], False),
            ([["a", "b", "c"], ["d"], ["x"]], ["a", "d", "x"], False), ([], [], False),
        ):
            self.assertIs(cars_hold(TABLE, told, names), holds)
        empty = Table(Roads([], []), [])
        self.assertIs(cars_hold(empty, [], []), True)
        self.assertIs(cars_hold(empty, [[]], ["x"]), False)

    def test_any_size(self):
        names = [f"t{number}" for number in range(200)]
        table = straight(40)
        self.assertIs(cars_hold(table, [names[:40]], ["t7"]), True)
        self.assertIs(cars_hold(table, [names], ["t7"]), False)
        self.assertIs(cars_hold(table, [names[:40]] + [[]] * 90, names[:91]), False)
        self.assertIs(cars_hold(table, [[name] for name in names], names), False)

    def test_what_is_told_and_one_thing_changed(self):
        source = random.Random(82)
        seen = []
        for _ in range(80):
            office = random_office(source, count=source.randint(0, 5))
            order = links(office.table)
            told = (chains(order), apart(order))
            self.assertTrue(self.assert_as_plain(cars_hold, plain_cars_hold, told, office))
            self.assertEqual(len(told[0]), plain_fewest_chains({name: list(order[name]) for name in order}))
            names = list(office.trips) + STRANGERS
            for asked in changed_asks(source, told, {0: Changes(names, nested=True), 1: Changes(names)}, 60):
                seen.append(self.assert_as_plain(cars_hold, plain_cars_hold, asked, office))
                if seen[-1]:
                    self.assertEqual(len(asked[0]), len(told[0]))
        self.assertGreater(min(seen.count(True), seen.count(False)), 100)


class Pieces(CheckerCase):
    """From h the trips a, b and c are 12, 11 and 1 minutes long, a b is 16, and a b c is 17."""

    def test_known_ones(self):
        names = ["a", "b", "c"]
        for limit, pieces, holds in (
            (17, [["a", "b", "c"]], True), (16, [["a", "b", "c"]], False), (16, [["a", "b"], ["c"]], True),
            (17, [["a", "b"], ["c"]], False), (15, [["a"], ["b", "c"]], True), (15, [["a", "b"], ["c"]], False),
            (12, [["a"], ["b", "c"]], True), (15, [["a"], ["b"], ["c"]], False), (12, [["a"], ["b", "c"], []], False),
            (11, [["a"], ["b"], ["c"]], False), (12, [["a"], [], ["b", "c"]], False), (12, [["b", "c"], ["a"]], False),
            (12, [["a"], ["b"]], False), (12, [["a"], ["b", "c", "c"]], False), (12, [], False), (-5, [], False),
        ):
            self.assertIs(pieces_hold(TABLE, "h", names, limit, pieces), holds)

    def test_what_is_refused_does_not_hold(self):
        for home, names, limit, pieces, holds in (
            ("h", [], 5, [], True), ("h", [], -5, [], True), ("h", [], 5, [[]], False), ("moon", [], 5, [], False),
            ("moon", ["a"], 99, [["a"]], False), ("h", ["x"], 99, [["x"]], False),
            ("h", ["b", "a"], 99, [["b", "a"]], False),
            ("h", ["b", "a"], 99, [["b"], ["a"]], False), ("out", ["a"], 99, [["a"]], False),
            ("in", ["c"], 99, [["c"]], False), ("p", ["a"], 5, [["a"]], True), ("p", ["a"], 4, [["a"]], False),
        ):
            self.assertIs(pieces_hold(TABLE, home, names, limit, pieces), holds)

    def test_any_size(self):
        table = straight(40)
        names = table.names()
        self.assertIs(pieces_hold(table, "h", names, 1, [[name] for name in names]), True)
        self.assertIs(pieces_hold(table, "h", names, 40, [names]), True)
        self.assertIs(pieces_hold(table, "h", names, 40, [names] + [["t0"]] * 90), False)
        self.assertIs(pieces_hold(table, "h", names * 3, 400, [names * 3]), False)

    def test_what_is_told_and_one_thing_changed(self):
        source = random.Random(42)
        seen = []
        while len(seen) < 5000:
            office = random_office(source, most_ways=14, count=5, latest=40)
            names, home = source.choice(office.rows()), source.choice(office.places)
            limit = source.randint(5, 30)
            if cut_refusal(office, home, names, limit):
                continue
            told = (home, names, limit, cut(office.table, home, names, limit))
            self.assertTrue(self.assert_as_plain(pieces_hold, plain_pieces_hold, told, office))
            texts = list(office.trips) + STRANGERS
            changes = {
                0: Changes(office.places + STRANGERS), 1: Changes(texts), 2: Changes([]),
                3: Changes(texts, nested=True),
            }
            for asked in changed_asks(source, told, changes, 40):
                seen.append(self.assert_as_plain(pieces_hold, plain_pieces_hold, asked, office))
        self.assertGreater(min(seen.count(True), seen.count(False)), 100)


class Giving(CheckerCase):
    CARS = [("x", 5, 16), ("y", 2, 99), ("z", 0, 1)]

    def test_known_ones(self):
        for blocks, names, holds in (
            ([["a", "b"], ["c"]], ["x", "z"], True), ([["a", "b"], ["c"]], ["x", "y"], True),
            ([["a", "b"], ["c"]], ["y", "x"], False), ([["a", "b"], ["c"]], ["x", "x"], False),
            ([["a", "b"], ["c"]], ["x"], False), ([["a", "b"], ["c"]], ["x", "z", "y"], False),
            ([["a"], ["a"]], ["x", "y"], True), ([[], []], ["z", "y"], True), ([["a", "b"]], ["w"], False),
            ([], [], True), ([], ["x"], False), ([["b", "a"]], ["x"], False), ([["q"]], ["x"], False),
            ([["a"], []], ["z", "x"], False),
        ):
            self.assertIs(giving_holds(TABLE, "h", blocks, self.CARS, names), holds)

    def test_the_home(self):
        self.assertIs(giving_holds(TABLE, "moon", [], self.CARS, []), True)
        self.assertIs(giving_holds(TABLE, "moon", [[]], self.CARS, ["x"]), False)
        self.assertIs(giving_holds(TABLE, "out", [["a"]], self.CARS, ["y"]), False)
        self.assertIs(giving_holds(TABLE, "out", [[]], self.CARS, ["y"]), True)

    def test_cars_that_are_refused(self):
        for cars in (
            [("x", 5, 16), ("x", 5, 16)], [("x", 5, 16), ("A", 1, 1)], [("x", 5, 16), ("y", -1, 0)],
            [("x", 5, LIMIT + 1)], [("x", LIMIT + 1, 16)], [("x", 5, 16), ("y", 0, -1)],
        ):
            self.assertIs(giving_holds(TABLE, "h", [["a"]], cars, ["x"]), False)
            self.assertIs(giving_holds(TABLE, "h", [], cars, []), False)

    def test_forty_and_forty_one(self):
        for count, holds in ((40, True), (41, False), (100, False)):
            cars = [(f"c{number}", 0, 0) for number in range(count)]
            names = [car[0] for car in cars]
            self.assertIs(giving_holds(TABLE, "h", [[]] * count, cars, names), holds)
            self.assertIs(giving_holds(TABLE, "h", [[]], cars, ["c0"]), holds)
        cars = [(f"c{number}", 0, 0) for number in range(40)]
        self.assertIs(giving_holds(TABLE, "h", [[]] * 41, cars, [car[0] for car in cars] + ["c40"]), False)

    def test_what_is_told_and_one_thing_changed(self):
        source = random.Random(46)
        seen = []
        while len(seen) < 4000:
            office = random_office(source, most_ways=14, count=4, latest=40)
            home, rows = source.choice(office.places), office.rows()
            blocks = [source.choice(rows) for _ in range(source.randint(0, 3))]
            cars = [(name, source.randint(3, 9), source.randint(8, 40)) for name in "wxyz"]
            try:
                told = (home, blocks, cars, give_cars(office.table, home, blocks, cars))
            except FleetError:
                continue
            self.assertTrue(self.assert_as_plain(giving_holds, plain_giving_holds, told, office))
            changes = {
                0: Changes(office.places + STRANGERS), 1: Changes(list(office.trips) + STRANGERS, nested=True),
                2: Changes(["w", "v"] + STRANGERS, texts=False), 3: Changes(["w", "x", "y", "v"] + STRANGERS),
            }
            for asked in changed_asks(source, told, changes, 40):
                seen.append(self.assert_as_plain(giving_holds, plain_giving_holds, asked, office))
        self.assertGreater(min(seen.count(True), seen.count(False)), 500)


class Weeks(CheckerCase):
    # One needs care in night 2 alone, idle needs none, and gone needs care and has no night.
    ONE, TWO = ("one", 1, 4, [1] * 7), ("two", 1, 4, [1] * 7)
    IDLE, GONE = ("idle", 3, 10, [1] * 7), ("gone", 11, 10, [0] * 7)

    def test_known_care(self):
        for weeks, bays, told, holds in (
            ([self.ONE, self.IDLE], 1, {"one": 2, "idle": None}, True), ([self.ONE, self.IDLE], 1, {"one": 2}, False),
            ([self.ONE, self.IDLE], 1, {"one": 2, "idle": 0}, False), ([self.ONE], 1, {"one": None}, False),
            ([self.ONE], 1, {"one": 1}, False), ([self.ONE], 1, {"one": 3}, False), ([self.ONE], 0, {"one": 2}, False),
            ([self.ONE, self.TWO], 1, {"one": 2, "two": 2}, False),
            ([self.ONE, self.TWO], 2, {"one": 2, "two": 2}, True),
            ([self.ONE], 1, {"one": 2, "two": 2}, False), ([self.GONE], 1, {"gone": None}, False),
            ([self.GONE], 1, {"gone": 0}, False), ([], 0, {}, True), ([], 0, {"x": None}, False), ([], -1, {}, False),
            ([], LIMIT, {}, True), ([], LIMIT + 1, {}, False), ([self.ONE], LIMIT, {"one": 2}, True),
            ([self.ONE], 1, {"one": -5}, False), ([self.ONE], 1, {"one": 7}, False),
        ):
            self.assertIs(care_holds(weeks, bays, told), holds)

    def test_known_crowds(self):
        both = [self.ONE, self.TWO, self.IDLE]
        for weeks, bays, first, last, names, holds in (
            (both, 1, 2, 2, ["one", "two"], True), (both, 2, 2, 2, ["one", "two"], False),
            (both, 1, 2, 3, ["one", "two"], False), (both, 0, 0, 6, ["one"], True), (both, 0, 0, 7, ["one"], False),
            (both, 0, -1, 6, ["one"], False), (both, 0, 3, 2, ["one"], False), (both, 0, 3, 6, ["one"], False),
            (both, 0, 0, 1, ["one"], False), (both, 0, 2, 2, [], False), (both, 1, 2, 2, ["one", "one"], False),
            (both, 0, 0, 6, ["idle"], False), (both, 0, 0, 6, ["x"], False), (both, -1, 2, 2, ["one"], False),
            (both, LIMIT + 1, 2, 2, ["one"], False), ([self.GONE], 0, 5, 5, ["gone"], True),
            ([self.GONE, self.ONE], 1, 2, 2, ["gone", "one"], True),
            ([self.GONE, self.ONE], 1, 3, 3, ["gone", "one"], False),
            ([self.GONE], 0, 6, 6, ["gone"], True), ([self.GONE], 0, 7, 7, ["gone"], False), ([], 0, 0, 0, [], False),
        ):
            self.assertIs(crowd_holds(weeks, bays, first, last, names), holds)

    def test_weeks_that_are_refused(self):
        for bad in (
            ("one", 0, 9, [0] * 7), ("A", 0, 9, [0] * 7), ("x", -1, 9, [0] * 7), ("x", 0, 0, [0] * 7),
            ("x", LIMIT + 1, 9, [0] * 7), ("x", 0, LIMIT + 1, [0] * 7), ("x", 0, 9, [0] * 6 + [-1]),
            ("x", 0, 9, [LIMIT + 1] + [0] * 6),
        ):
            self.assertIs(care_holds([self.ONE, bad], 1, {"one": 2, bad[0]: None}), False)
            self.assertIs(crowd_holds([self.ONE, bad], 0, 2, 2, ["one"]), False)

    def test_forty_and_forty_one(self):
        for count, holds in ((40, True), (41, False), (100, False)):
            weeks = [(f"c{number}",) + self.ONE[1:] for number in range(count)]
            names = [week[0] for week in weeks]
            self.assertIs(care_holds(weeks, count, {name: 2 for name in names}), holds)
            self.assertIs(care_holds(weeks, count - 1, {name: 2 for name in names}), False)
            self.assertIs(crowd_holds(weeks, count - 1, 2, 2, names), holds)
            self.assertIs(crowd_holds(weeks, count, 2, 2, names), False)

    def test_care_that_is_told_and_one_thing_changed(self):
        source = random.Random(84)
        seen = []
        while len(seen) < 5000:
            weeks, bays = random_weeks(source, source.randint(0, 4)), source.randint(0, 2)
            try:
                told = (weeks, bays, care(weeks, bays))
            except FleetError:
                continue
            self.assertTrue(self.assert_as_plain(care_holds, plain_care_holds, told))
            changes = {0: Changes(["c0", "x"], texts=False), 1: Changes([]), 2: Changes(["c0", "x"], nones=True)}
            for asked in self.changed(source, told, changes):
                seen.append(self.assert_as_plain(care_holds, plain_care_holds, asked))
        self.assertGreater(min(seen.count(True), seen.count(False)), 500)

    def test_crowds_that_are_told_and_one_thing_changed(self):
        source = random.Random(841)
        seen = []
        while len(seen) < 5000:
            weeks, bays = random_weeks(source, source.randint(1, 4)), source.randint(0, 1)
            try:
                care(weeks, bays)
                continue
            except Crowded as error:
                told = (weeks, bays, error.first, error.last, error.cars)
            except FleetError:
                continue
            self.assertTrue(self.assert_as_plain(crowd_holds, plain_crowd_holds, told))
            texts = Changes(["c0", "c1", "c2", "x"], texts=False)
            changes = {0: texts, 1: texts, 2: texts, 3: texts, 4: Changes(["c0", "c1", "x"])}
            for asked in self.changed(source, told, changes):
                seen.append(self.assert_as_plain(crowd_holds, plain_crowd_holds, asked))
                if seen[-1]:
                    self.assert_no_care(asked[0], asked[1])
        self.assertGreater(min(seen.count(True), seen.count(False)), 500)

    def changed(self, source, told, changes):
        """The loads of a week stay seven, and a night is told as a number or None."""
        return [
            asked for asked in changed_asks(source, told, changes, 60)
            if all(len(week[3]) == 7 for week in asked[0])
            and not (isinstance(asked[2], dict) and any(isinstance(night, str) for night in asked[2].values()))
        ]

    def assert_no_care(self, weeks, bays):
        lists = [plain_nights(*week[1:]) if needs(week) else [None] for week in weeks]
        for nights in itertools.product(*lists):
            self.assertFalse(care_holds(weeks, bays, {week[0]: night for week, night in zip(weeks, nights)}))


class Duties(CheckerCase):
    def test_known_duties(self):
        for home, rule, duties, holds in (
            ("h", Rule(), [["a", "b", "c"], ["d"]], True), ("h", Rule(), [["a", "b"], ["d", "c"]], True),
            ("h", Rule(), [["a"], ["b"], ["c"], ["d"]], True), ("h", Rule(), [["a", "d"], ["b"], ["c"]], False),
            ("h", Rule(), [["a", "b", "c"]], False), ("h", Rule(), [["a", "b", "c"], ["d"], []], False),
            ("h", Rule(), [["a", "b", "c"], ["d"], ["d"]], False), ("h", Rule(), [["a", "b", "c"], ["d", "x"]], False),
            ("moon", Rule(), [["a", "b", "c"], ["d"]], False), ("out", Rule(), [["a", "b", "c"], ["d"]], False),
            ("h", Span(34), [["a", "b", "c"], ["d"]], True), ("h", Span(33), [["a", "b", "c"], ["d"]], False),
            ("h", Span(-1), [], False),
        ):
            self.assertIs(duties_hold(TABLE, home, rule, duties), holds)
        empty = Table(Roads(["h"], []), [])
        for home, duties, holds in (("h", [], True), ("moon", [], False), ("h", [[]], False), ("h", [["x"]], False)):
            self.assertIs(duties_hold(empty, home, Span(-1), duties), holds)

    def test_five_and_six_trips(self):
        names = straight(6).names()
        self.assertIs(duties_hold(straight(6), "h", Rule(), [names]), False)
        self.assertIs(duties_hold(straight(6), "h", Rule(), [names[:5], names[5:]]), True)
        self.assertIs(duties_hold(straight(5), "h", Rule(), [names[:5]]), True)

    def test_more_lawful_duties_than_can_be_told(self):
        table = groups(40)
        names = table.names()
        duties = [names[place:place + 5] for place in range(0, 40, 5)]
        self.assertIs(duties_hold(table, "h", Rule(), duties), True)
        shares = {name: (1, 40) for name in names}
        self.assertIs(shares_hold(table, "h", Rule(), shares), False)
        self.assertIs(bounds_hold(table, "h", Rule(), (1, 8, duties, shares)), False)

    def test_at_most_four_hundred_lawful_duties(self):
        for counts, holds in (((9,), True), ((9, 4, 2, 1), True), ((9, 4, 2, 1, 1), False), ((8, 8), False)):
            table = groups(*counts)
            self.assertIs(shares_hold(table, "h", Rule(), {name: (0, 1) for name in table.names()}), holds)

    def test_known_shares(self):
        nought, half, one = (0, 1), (1, 2), (1, 1)
        for shares, holds in (
            ({"a": one, "b": nought, "c": nought, "d": one}, True),
            ({"a": half, "b": half, "c": nought, "d": half}, True),
            ({"a": half, "b": half, "c": (1, 100), "d": half}, False), ({"a": one, "b": nought, "c": nought}, False),
            ({"a": one, "b": nought, "c": nought, "d": one, "x": nought}, False), ({}, False),
        ):
            self.assertIs(shares_hold(TABLE, "h", Rule(), shares), holds)
        shares = {"a": one, "b": nought, "c": nought, "d": one}
        odd_ones = ((2, 2), (-1, 2), (-1, -2), (1, 0), (0, 0), (1, -1), (0, 2), (0, -1), (-(10 ** 299), 1), (0, 9))
        for odd in odd_ones:
            self.assertIs(shares_hold(TABLE, "h", Rule(), shares | {"d": odd}), False)
        self.assertIs(shares_hold(TABLE, "moon", Rule(), shares), False)
        self.assertIs(shares_hold(TABLE, "out", Rule(), shares), False)
        self.assertIs(shares_hold(TABLE, "h", Span(11), shares), False)
        self.assertIs(shares_hold(TABLE, "h", Span(12), {name: one for name in "abcd"}), True)
        self.assertIs(shares_hold(Table(Roads(["h"], []), []), "h", Span(-1), {}), True)
        self.assertIs(shares_hold(Table(Roads(["h"], []), []), "moon", Rule(), {}), False)

    def test_known_bounds(self):
        duties = [["a", "b", "c"], ["d"]]
        shares = {"a": (1, 2), "b": (1, 2), "c": (0, 1), "d": (1, 2)}
        for told, holds in (
            ((2, 2, duties, shares), True), ((1, 2, duties, shares), False), ((3, 2, duties, shares), False),
            ((2, 3, duties, shares), False), ((2, 1, duties, shares), False), ((2, 1, duties[:1], shares), False),
            ((2, 2, duties, shares | {"c": (1, 9)}), False), ((1, 2, duties, {name: (0, 1) for name in "abcd"}), False),
            ((0, 2, duties, {name: (0, 1) for name in "abcd"}), True),
            ((2, 3, [["a", "b"], ["c"], ["d"]], shares), True),
        ):
            self.assertIs(bounds_hold(TABLE, "h", Rule(), told), holds)
        self.assertIs(bounds_hold(Table(Roads(["h"], []), []), "h", Rule(), (0, 0, [], {})), True)

    def test_each_rule_at_its_edge(self):
        for rule, holds in (
            (Work(17), True), (Work(16), False), (Pause(5, 5), True), (Pause(4, 5), False), (Shift(7, 41), True),
            (Shift(8, 41), False), (Shift(7, 40), False),
        ):
            self.assertIs(duties_hold(TABLE, "h", rule, [["a", "b", "c"], ["d"]]), holds)

    def test_what_is_told_and_one_thing_changed(self):
        source = random.Random(85)
        seen = []
        while len(seen) < 3000:
            office = random_office(source, most_ways=14, count=source.randint(0, 5), latest=40)
            home, rule = source.choice(office.places), source.choice(some_rules(source) + [Rule(), Span(60)])
            if lawful_refusal(office, home, rule):
                continue
            table = office.table
            told = bounds(table.names(), lawful(table, home, rule))
            seen += self.look(source, office, home, rule, told)
        self.assertGreater(min(seen.count(True), seen.count(False)), 100)

    def look(self, source, office, home, rule, told):
        names = list(office.trips) + STRANGERS
        places = Changes(office.places + STRANGERS)
        self.assertTrue(self.assert_as_plain(bounds_hold, plain_bounds_hold, (home, rule, told), office))
        seen = []
        for asked, plain, part, changes in (
            (bounds_hold, plain_bounds_hold, told, Changes(names, nested=True)),
            (duties_hold, plain_duties_hold, told[2], Changes(names, nested=True)),
            (shares_hold, plain_shares_hold, told[3], Changes(names)),
        ):
            for changed in changed_asks(source, (home, rule, part), {0: places, 2: changes}, 15):
                seen.append(self.assert_as_plain(asked, plain, changed, office))
                if asked is bounds_hold and seen[-1]:
                    self.assert_not_fewer(office, changed[0], rule, changed[2][0])
        return seen

    def assert_not_fewer(self, office, home, rule, low):
        rows = plain_lawful(office, home, rule)
        for parts in partitions(sorted(office.trips, key=lambda name: office.trips[name][3])):
            if all(part in rows for part in parts):
                self.assertGreaterEqual(len(parts), low)


class Errors(Case):
    def test_no_classes_of_its_own(self):
        self.assert_error_classes(module, {})
