import copy
import itertools
import random

from fleetpath import blocks as module
from fleetpath.blocks import TooLong, Unlinked, block_length, check_row, cut, legs
from fleetpath.errors import LIMIT, NoPlace, NoTrip, NoWay, Twice
from fleetpath.roads import Roads
from fleetpath.trips import Table
from tests.helper import Case, Office, cut_refusal, outcome, random_names, random_office

PLACES = ["h", "p", "q"]
WAYS = [("h", "p", 3), ("p", "h", 4), ("p", "q", 5), ("q", "p", 6), ("q", "h", 4), ("h", "q", 20)]
TRIPS = [
    ("a", "p", "q", 10, 15, 1), ("b", "p", "p", 21, 24, 2), ("c", "h", "h", 30, 31, 3), ("d", "q", "p", 50, 60, 4),
    ("e", "q", "q", 12, 14, 5),
]
TABLE = Table(Roads(PLACES, WAYS), TRIPS)

# From the home to the place out, but not back; from the place in to the home, but not there.
LAME = Table(
    Roads(["h", "out", "in", "far"], [("h", "out", 2), ("in", "h", 3)]),
    [
        ("o", "out", "out", 10, 11, 0), ("o2", "out", "out", 20, 21, 0), ("i", "in", "in", 10, 11, 0),
        ("f", "far", "far", 30, 31, 0), ("h", "h", "h", 40, 41, 0), ("io", "in", "out", 50, 60, 0),
    ],
)


def offices(seed, rounds, **bounds):
    source = random.Random(seed)
    for _ in range(rounds):
        yield source, random_office(source, **bounds)


def some_home(source, office):
    return source.choice(office.places * 3 + ["nowhere"])


class Errors(Case):
    def test_classes(self):
        self.assert_error_classes(module, {"Unlinked": ["first", "second"], "TooLong": ["name"]})


class Rows(Case):
    def test_rows_are_let_by(self):
        for names in ([], ["a"], ["a", "b"], ["a", "b", "c", "d"], ["e", "d"], ["d"]):
            self.assertIsNone(check_row(TABLE, "h", names))
            self.assertIsNone(check_row(TABLE, "q", names))

    def test_a_home_that_is_no_place(self):
        for names in ([], ["a"], ["x"], ["b", "a"], ["b", "a", "x"]):
            self.assert_refused(NoPlace, {"name": "moon"}, check_row, TABLE, "moon", names)
        self.assert_refused(NoPlace, {"name": ""}, check_row, TABLE, "", [])

    def test_names_that_are_no_trips(self):
        for name in ("x", "", "A B\n", "x" * 30, "h"):
            self.assert_refused(NoTrip, {"name": name}, check_row, TABLE, "h", [name])
            self.assert_refused(NoTrip, {"name": name}, check_row, TABLE, "h", ["a", name, "y"])
            self.assert_refused(NoTrip, {"name": name}, check_row, TABLE, "h", ["b", "a", name])

    def test_neighbours_not_linked(self):
        self.assert_refused(Unlinked, {"first": "b", "second": "a"}, check_row, TABLE, "h", ["b", "a"])
        self.assert_refused(Unlinked, {"first": "a", "second": "e"}, check_row, TABLE, "h", ["a", "e", "a"])
        self.assert_refused(Unlinked, {"first": "c", "second": "b"}, check_row, TABLE, "h", ["a", "c", "b", "a"])

    def test_a_name_twice_behind_itself(self):
        self.assert_refused(Unlinked, {"first": "a", "second": "a"}, check_row, TABLE, "h", ["a", "a"])
        self.assert_refused(Unlinked, {"first": "b", "second": "b"}, check_row, TABLE, "h", ["a", "b", "b"])

    def test_linked_just_in_time(self):
        for start, lets_by in ((21, True), (20, False), (22, True)):
            trips = [("a", "p", "q", 10, 15, 1), ("b", "p", "p", start, 24, 2)]
            table = Table(Roads(PLACES, WAYS), trips)
            if lets_by:
                self.assertIsNone(check_row(table, "h", ["a", "b"]))
            else:
                self.assert_refused(Unlinked, {"first": "a", "second": "b"}, check_row, table, "h", ["a", "b"])

    def test_ways_home_are_not_asked_for(self):
        for names in (["o"], ["i"], ["f"], ["o", "o2"]):
            self.assertIsNone(check_row(LAME, "h", names))

    def test_against_plain_refusals(self):
        for source, office in offices(40, 200):
            for _ in range(10):
                home, names = some_home(source, office), random_names(source, office)
                self.assertEqual(outcome(check_row, office.table, home, names), office.row_refusal(home, names))


class Lengths(Case):
    def test_known_lengths(self):
        for home, names, minutes in (
            ("h", [], 0),
            ("h", ["a"], 3 + 5 + 4),
            ("h", ["a", "b"], 3 + 5 + 6 + 3 + 4),
            ("h", ["c"], 1),
            ("h", ["b", "c"], 3 + 3 + 4 + 1),
            ("h", ["c", "d"], 1 + 8 + 10 + 4),
            ("p", ["a"], 5 + 6),
            ("q", ["a"], 6 + 5),
            ("p", ["b"], 3),
        ):
            self.assertEqual(block_length(TABLE, home, names), minutes)

    def test_waits_are_not_counted(self):
        for start in (20, 21, 100, LIMIT - 10):
            trips = [("a", "h", "h", 10, 20, 0), ("b", "h", "h", start, start + 5, 0)]
            self.assertEqual(block_length(Table(Roads(["h"], []), trips), "h", ["a", "b"]), 15)

    def test_longer_than_the_limit_of_counts(self):
        roads = Roads(["h", "p"], [("h", "p", LIMIT), ("p", "h", LIMIT)])
        table = Table(roads, [("a", "p", "p", 0, LIMIT, 0)])
        self.assertEqual(block_length(table, "h", ["a"]), 3 * LIMIT)

    def test_no_way_there_and_none_back(self):
        there = {"origin": "h", "goal": "in"}
        back = {"origin": "out", "goal": "h"}
        self.assert_refused(NoWay, there, block_length, LAME, "h", ["i"])
        self.assert_refused(NoWay, back, block_length, LAME, "h", ["o"])
        self.assert_refused(NoWay, back, block_length, LAME, "h", ["o", "o2"])
        self.assert_refused(NoWay, {"origin": "h", "goal": "far"}, block_length, LAME, "h", ["f"])
        self.assert_refused(NoWay, there, block_length, LAME, "h", ["i", "io"])
        self.assert_refused(NoWay, there, block_length, LAME, "h", ["io"])

    def test_rows_are_refused_ahead_of_ways(self):
        self.assert_refused(NoPlace, {"name": "x"}, block_length, LAME, "x", ["i"])
        self.assert_refused(NoPlace, {"name": "x"}, block_length, LAME, "x", [])
        self.assert_refused(NoTrip, {"name": "x"}, block_length, LAME, "h", ["i", "x"])
        self.assert_refused(Unlinked, {"first": "i", "second": "f"}, block_length, LAME, "h", ["i", "f"])

    def test_against_plain_minutes(self):
        told = 0
        for source, office in offices(41, 300):
            for _ in range(10):
                home, names = some_home(source, office), random_names(source, office)
                expected = office.block_refusal(home, names)
                if expected is None:
                    expected = office.driven(home, names)
                    told += 1
                self.assertEqual(outcome(block_length, office.table, home, names), expected)
        self.assertGreater(told, 1000)


def cuts(names):
    """Every list of pieces that are, one behind the other, the names again."""
    for chosen in itertools.product((False, True), repeat=max(0, len(names) - 1)):
        pieces = [[name] for name in names[:1]]
        for name, parted in zip(names[1:], chosen):
            if parted:
                pieces.append([name])
            else:
                pieces[-1].append(name)
        yield pieces


class Cuts(Case):
    def assert_cut(self, office, home, names, limit):
        pieces = cut(office.table, home, names, limit)
        self.assertIs(type(pieces), list)
        self.assertEqual([name for piece in pieces for name in piece], names)
        for piece in pieces:
            self.assertIs(type(piece), list)
            self.assertGreaterEqual(len(piece), 1)
            self.assertLessEqual(office.driven(home, piece), limit)
        for piece, later in zip(pieces, pieces[1:]):
            self.assertGreater(office.driven(home, piece + later[:1]), limit)
        within = [
            tried for tried in cuts(names)
            if all(office.driven(home, piece) <= limit for piece in tried)
        ]
        self.assertEqual(len(pieces), min(len(tried) for tried in within))

    def test_known_pieces(self):
        for names, limit, pieces in (
            ("abcd", 1000, ["abcd"]),
            ("abcd", 44, ["abcd"]),
            ("abcd", 43, ["abc", "d"]),
            ("abcd", 22, ["abc", "d"]),
            ("abc", 22, ["abc"]),
            ("abc", 21, ["ab", "c"]),
            ("abc", 20, ["a", "bc"]),
            ("abc", 12, ["a", "bc"]),
            ("bc", 11, ["bc"]),
            ("bc", 10, ["b", "c"]),
        ):
            self.assertEqual(cut(TABLE, "h", list(names), limit), [list(piece) for piece in pieces])

    def test_just_at_a_blocks_length_and_one_below(self):
        self.assertEqual(cut(TABLE, "h", ["a"], 12), [["a"]])
        self.assertEqual(cut(TABLE, "h", ["a"], 13), [["a"]])
        self.assert_refused(TooLong, {"name": "a"}, cut, TABLE, "h", ["a"], 11)
        self.assert_refused(TooLong, {"name": "d"}, cut, TABLE, "h", ["a", "b", "c", "d"], 21)

    def test_any_whole_number_as_limit(self):
        for limit in (-(10 ** 299), -LIMIT, -1, 0):
            self.assertEqual(cut(TABLE, "h", [], limit), [])
            self.assert_refused(TooLong, {"name": "c"}, cut, TABLE, "h", ["c"], limit)
            self.assert_refused(TooLong, {"name": "a"}, cut, TABLE, "h", ["a", "c"], limit)
        for limit in (LIMIT, 10 ** 299):
            self.assertEqual(cut(TABLE, "h", [], limit), [])
            self.assertEqual(cut(TABLE, "h", ["a", "b", "c", "d"], limit), [["a", "b", "c", "d"]])

    def test_the_row_without_trips(self):
        self.assertEqual(cut(TABLE, "h", [], 0), [])
        self.assert_refused(NoPlace, {"name": "x"}, cut, TABLE, "x", [], 0)

    def test_rows_are_refused_first(self):
        self.assert_refused(NoPlace, {"name": "x"}, cut, LAME, "x", ["y", "i"], -1)
        self.assert_refused(NoTrip, {"name": "y"}, cut, LAME, "h", ["i", "o", "y"], -1)
        self.assert_refused(Unlinked, {"first": "i", "second": "f"}, cut, LAME, "h", ["i", "f"], -1)

    def test_trip_by_trip(self):
        there = {"origin": "h", "goal": "in"}
        back = {"origin": "out", "goal": "h"}
        self.assert_refused(NoWay, there, cut, LAME, "h", ["io"], -1)
        self.assert_refused(NoWay, there, cut, LAME, "h", ["i", "io"], 1000)
        self.assert_refused(NoWay, back, cut, LAME, "h", ["o", "o2"], -1)
        self.assert_refused(NoWay, there, cut, LAME, "h", ["i", "h"], 0)

    def test_a_trip_too_long_ahead_of_a_trip_without_a_way(self):
        roads = Roads(["h", "p"], [("h", "p", 1)])
        table = Table(roads, [("a", "h", "h", 0, 10, 0), ("b", "h", "p", 20, 25, 0), ("c", "h", "h", 12, 15, 0)])
        self.assert_refused(TooLong, {"name": "a"}, cut, table, "h", ["a", "b"], 9)
        self.assert_refused(NoWay, {"origin": "p", "goal": "h"}, cut, table, "h", ["a", "b"], 10)
        self.assert_refused(NoWay, {"origin": "p", "goal": "h"}, cut, table, "h", ["c", "b"], 4)
        self.assert_refused(TooLong, {"name": "c"}, cut, table, "h", ["c", "b"], 2)

    def test_against_a_plain_search(self):
        told = 0
        for source, office in offices(42, 300):
            for _ in range(5):
                home, names = some_home(source, office), random_names(source, office)
                limit = source.randint(-1, 30)
                refusal = cut_refusal(office, home, names, limit)
                if refusal is None:
                    self.assert_cut(office, home, names, limit)
                    told += 1
                else:
                    self.assertEqual(outcome(cut, office.table, home, names, limit), refusal)
        self.assertGreater(told, 300)

    def test_every_limit_of_long_rows(self):
        for source, office in offices(43, 40, most_places=3, most_ways=15, count=7, latest=60):
            names = max(office.rows(), key=len)
            for home in office.places:
                if all(office.block_refusal(home, [name]) is None for name in names):
                    least = max([office.driven(home, [name]) for name in names], default=0)
                    for limit in range(least, office.driven(home, names) + 2):
                        self.assert_cut(office, home, names, limit)


def plain_legs(office, home, blocks):
    told = []
    for names in blocks:
        for place, name in enumerate(names):
            _, origin, goal, start, finish, seats = office.trips[name]
            left = home if place == 0 else office.trips[names[place - 1]][2]
            start -= office.length(left, origin)
            if place == len(names) - 1:
                finish += office.length(goal, home)
                goal = home
            told.append((name, left, goal, start, finish, seats))
    return told


def legs_refusal(office, home, blocks):
    for names in blocks:
        refusal = office.block_refusal(home, names)
        if refusal:
            return refusal
    had = []
    for name in [name for names in blocks for name in names]:
        if name in had:
            return (Twice, {"name": name})
        had.append(name)
    return None


class Legs(Case):
    def test_one_trip(self):
        self.assertEqual(legs(TABLE, "h", [["a"]]), [("a", "h", "h", 7, 19, 1)])
        self.assertEqual(legs(TABLE, "h", [["c"]]), [("c", "h", "h", 30, 31, 3)])

    def test_two_trips_and_more(self):
        self.assertEqual(legs(TABLE, "h", [["a", "b"]]), [("a", "h", "q", 7, 15, 1), ("b", "q", "h", 15, 28, 2)])
        self.assertEqual(legs(TABLE, "h", [["a", "b", "d"]]), [
            ("a", "h", "q", 7, 15, 1), ("b", "q", "p", 15, 24, 2), ("d", "p", "h", 45, 64, 4),
        ])

    def test_block_by_block_in_their_order(self):
        told = legs(TABLE, "h", [["e", "d"], ["c"], [], ["a", "b"]])
        self.assertEqual([leg[0] for leg in told], ["e", "d", "c", "a", "b"])
        self.assertIs(type(told), list)
        for leg in told:
            self.assertIs(type(leg), tuple)

    def test_a_start_below_nought_and_a_finish_above_the_limit(self):
        roads = Roads(["h", "p"], [("h", "p", 5), ("p", "h", 7)])
        table = Table(roads, [("a", "p", "p", 0, 2, 0), ("z", "p", "p", 9, LIMIT, 0)])
        self.assertEqual(legs(table, "h", [["a"]]), [("a", "h", "h", -5, 9, 0)])
        self.assertEqual(legs(table, "h", [["z"]]), [("z", "h", "h", 4, LIMIT + 7, 0)])
        self.assertEqual(legs(table, "h", [["a", "z"]]), [
            ("a", "h", "p", -5, 2, 0), ("z", "p", "h", 9, LIMIT + 7, 0),
        ])

    def test_no_blocks_and_blocks_without_trips(self):
        self.assertEqual(legs(TABLE, "moon", []), [])
        self.assertEqual(legs(TABLE, "h", [[], []]), [])
        self.assert_refused(NoPlace, {"name": "moon"}, legs, TABLE, "moon", [[]])
        self.assert_refused(NoPlace, {"name": "moon"}, legs, TABLE, "moon", [["a"], ["x"]])

    def test_block_by_block_refused(self):
        self.assert_refused(NoTrip, {"name": "x"}, legs, TABLE, "h", [["a"], ["x"], ["b", "a"]])
        self.assert_refused(Unlinked, {"first": "b", "second": "a"}, legs, TABLE, "h", [["a"], ["b", "a"], ["x"]])
        self.assert_refused(NoWay, {"origin": "h", "goal": "in"}, legs, LAME, "h", [["h"], ["i"], ["o"], ["x"]])
        self.assert_refused(NoWay, {"origin": "out", "goal": "h"}, legs, LAME, "h", [["o"], ["i"]])

    def test_a_name_that_stood_ahead(self):
        self.assert_refused(Twice, {"name": "b"}, legs, TABLE, "h", [["a", "b"], ["b"], ["a"]])
        self.assert_refused(Twice, {"name": "a"}, legs, TABLE, "h", [["a", "b"], ["a", "b"]])
        self.assert_refused(Twice, {"name": "c"}, legs, TABLE, "h", [["c"], [], ["c"]])
        self.assert_refused(Twice, {"name": "d"}, legs, TABLE, "h", [["a", "d"], ["c", "d"]])

    def test_blocks_are_refused_ahead_of_twice(self):
        self.assert_refused(NoTrip, {"name": "x"}, legs, TABLE, "h", [["a"], ["a"], ["x"]])
        self.assert_refused(Unlinked, {"first": "a", "second": "a"}, legs, TABLE, "h", [["a", "a"]])
        self.assert_refused(NoWay, {"origin": "h", "goal": "in"}, legs, LAME, "h", [["h"], ["h"], ["i"]])

    def test_against_a_plain_reckoning(self):
        told = 0
        for source, office in offices(44, 400, most_ways=14):
            blocks = [random_names(source, office) for _ in range(source.randint(0, 3))]
            home = some_home(source, office)
            expected = legs_refusal(office, home, blocks)
            if expected is None:
                expected = plain_legs(office, home, blocks)
                told += len(blocks) > 0
            self.assertEqual(outcome(legs, office.table, home, blocks), expected)
        self.assertGreater(told, 50)

    def test_legs_are_linked_as_their_block_was(self):
        office = Office(PLACES, WAYS, TRIPS)
        for names in office.rows():
            told = legs(office.table, "h", [names])
            for leg in told:
                self.assertGreaterEqual(leg[4] - leg[3], office.length(leg[1], leg[2]))
            for leg, later in zip(told, told[1:]):
                self.assertEqual(leg[2], later[1])
                self.assertLessEqual(leg[4], later[3])


class Kept(Case):
    def test_what_is_handed_in_stays(self):
        names, rows = ["a", "b", "c", "d"], [["a", "b"], ["c"], []]
        for _ in range(2):
            check_row(TABLE, "h", names)
            block_length(TABLE, "h", names)
            cut(TABLE, "h", names, 30)
            legs(TABLE, "h", rows)
        self.assertEqual((names, rows), (["a", "b", "c", "d"], [["a", "b"], ["c"], []]))
        refused = [["a"], ["a"]]
        self.assert_refused(Twice, {"name": "a"}, legs, TABLE, "h", refused)
        self.assertEqual(refused, [["a"], ["a"]])

    def test_what_is_told_is_the_askers_own(self):
        names = ["a", "b", "c"]
        for limit in (1000, 21, 12):
            earlier = cut(TABLE, "h", names, limit)
            kept = copy.deepcopy(earlier)
            changed = cut(TABLE, "h", names, limit)
            changed[0].append("x")
            changed.clear()
            self.assertEqual((cut(TABLE, "h", names, limit), earlier, names), (kept, kept, ["a", "b", "c"]))
        earlier = legs(TABLE, "h", [names])
        legs(TABLE, "h", [names]).clear()
        names.append("d")
        self.assertEqual(len(earlier), 3)
        self.assertEqual(legs(TABLE, "h", [["a", "b", "c"]]), earlier)
        self.assertEqual(TABLE.trip("a"), ("a", "p", "q", 10, 15, 1))
        self.assertEqual(TABLE.names(), ["a", "e", "b", "c", "d"])
