import copy
import random

from fleetpath import day as module
from fleetpath.day import Back, Day, Done, Failed, Past, Unfit
from fleetpath.errors import LIMIT, BadName, BadNumber, NoPlace, NoTrip, NoWay, TooMany, Twice
from fleetpath.hours import Rule
from fleetpath.judges import CarJudge, DriverJudge, Judge, NoKey
from fleetpath.roads import Roads
from fleetpath.trips import Backward, Table, TooFast
from tests.helper import (
    Case, Office, outcome, plain_begun, random_judge, random_office, random_rows, rows_refusal, trip_refusal,
)

PLACES = ["h", "p", "out", "in"]
WAYS = [("h", "p", 3), ("p", "h", 4), ("h", "out", 1), ("in", "h", 1)]
TRIPS = [
    ("a", "p", "p", 10, 15, 2), ("b", "p", "p", 20, 24, 5), ("c", "h", "h", 40, 41, 0), ("d", "h", "p", 10, 30, 0),
]
TABLE = Table(Roads(PLACES, WAYS), TRIPS)
CARS = [("k", 9, 99), ("l", 9, 99), ("m", 9, 99)]
BOUNDS = (-1, LIMIT + 1, -(10 ** 299), 10 ** 299)


def straight(count):
    """A table of as many trips of five minutes, one each tenth minute, at one place."""
    trips = [(f"t{number}", "h", "h", 10 * number, 10 * number + 5, 0) for number in range(count)]
    return Table(Roads(["h"], []), trips)


def state(day):
    """All that a day tells."""
    table = day.table()
    trips = [table.trip(name) for name in table.names()]
    return day.now(), list(day.rows().items()), day.left(), day.lost(), trips, day.paper()


def standing(day):
    return day.rows(), day.left(), day.lost()


class DayCase(Case):
    def assert_unchanged(self, kind, fields, day, deed, *told):
        before = state(day)
        self.assert_refused(kind, fields, deed, *told)
        self.assertEqual(state(day), before)


class Errors(Case):
    def test_classes(self):
        self.assert_error_classes(module, {
            "Unfit": ["name"], "Back": ["value"], "Done": ["name"], "Past": ["name"], "Failed": ["name"],
        })


class Made(DayCase):
    def test_trips_in_no_row(self):
        for now, left, lost in (
            (0, ["a", "d", "c"], []), (9, ["a", "d", "c"], []), (10, ["c"], ["a", "d"]), (39, ["c"], ["a", "d"]),
            (40, [], ["a", "d", "c"]),
        ):
            day = Day(TABLE, Judge(), {"k": ["b"]}, now)
            self.assertEqual(standing(day), ({"k": ["b"]}, left, lost))
            self.assertEqual((day.now(), day.paper()), (now, None))

    def test_now_is_nought_where_it_is_not_told(self):
        table = straight(2)
        day = Day(table, Judge(), {})
        self.assertEqual((day.now(), day.left(), day.lost()), (0, ["t1"], ["t0"]))

    def test_now_at_its_bounds(self):
        self.assertEqual(Day(TABLE, Judge(), {}, 0).now(), 0)
        self.assertEqual(Day(TABLE, Judge(), {}, LIMIT).lost(), TABLE.names())
        rows = {f"k{number}": ["x"] for number in range(41)}
        for now in BOUNDS:
            self.assert_refused(BadNumber, {"value": now}, Day, TABLE, Judge(), {}, now)
            self.assert_refused(BadNumber, {"value": now}, Day, TABLE, CarJudge("moon", []), rows, now)

    def test_reserves(self):
        day = Day(TABLE, CarJudge("h", CARS), {"m": [], "k": ["a", "b"], "l": ["d", "c"]}, 0)
        self.assertEqual(list(day.rows().items()), [("m", []), ("k", ["a", "b"]), ("l", ["d", "c"])])
        day.put_in(("e", "h", "h", 5, 6, 0))
        self.assertEqual(list(day.rows().items()), [("m", ["e"]), ("k", ["a", "b"]), ("l", ["d", "c"])])
        self.assertEqual((day.left(), day.paper()[0]), ([], []))

    def test_no_trips_and_no_keys(self):
        day = Day(Table(Roads([], []), []), CarJudge("moon", []), {}, 5)
        self.assertEqual(standing(day), ({}, [], []))
        self.assertEqual(day.table().names(), [])

    def test_rows_as_mending_refuses_them(self):
        none, moon = CarJudge("moon", []), CarJudge("moon", CARS)
        many = {f"k{number}": ["x"] for number in range(41)}
        for rows, judge, kind, fields in (
            (many, none, TooMany, {"most": 40}), ({"k": ["a", "x", "a"]}, none, NoTrip, {"name": "x"}),
            ({"k": ["a"], "l": ["a", "x"]}, none, Twice, {"name": "a"}),
            ({"k": ["b", "b"]}, Judge(), Twice, {"name": "b"}),
            ({"k": ["b", "a"], "l": []}, none, NoKey, {"name": "k"}),
            ({"k": ["b", "a"], "z": []}, CarJudge("h", CARS), NoKey, {"name": "z"}),
            ({"k": ["b", "a"], "z": []}, moon, NoPlace, {"name": "moon"}),
            ({"k": ["b", "a"]}, DriverJudge(Rule(), [("k", "sun", 0, 0, 0)]), NoPlace, {"name": "sun"}),
        ):
            self.assert_refused(kind, fields, Day, TABLE, judge, rows, 0)

    def test_then_rows_that_do_not_stand(self):
        for rows, name in (({"k": ["a"], "l": ["c", "b"], "m": ["d"]}, "l"), ({"m": ["d", "a"], "k": ["c", "b"]}, "m")):
            for judge in (Judge(), CarJudge("h", CARS)):
                for now in (0, 99):
                    self.assert_refused(Unfit, {"name": name}, Day, TABLE, judge, rows, now)
        cars = CarJudge("h", [("k", 4, 99), ("l", 5, 15), ("m", 5, 16)])
        for key, fit in (("k", False), ("l", False), ("m", True)):
            told = outcome(Day, TABLE, cars, {key: ["a", "b"]}, 0)
            self.assertEqual(told if not fit else type(told), Day if fit else (Unfit, {"name": key}))

    def test_against_plain_reckoning(self):
        source = random.Random(77)
        seen = []
        for _ in range(500):
            office = random_office(source, most_ways=14, count=source.randint(0, 5), latest=30)
            keys = ["k", "l", "m"][:source.randint(0, 3)]
            asked = random_judge(source, office, keys)
            rows, _ = random_rows(source, office, keys)
            now = source.randint(-1, 30)
            refusal = (BadNumber, {"value": now}) if now < 0 else rows_refusal(office, asked, rows, [], [])
            for key in [] if refusal else keys:
                if not refusal and not asked.may_drive(office, key, rows[key]):
                    refusal = (Unfit, {"name": key})
            told = outcome(Day, office.table, asked.judge, rows, now)
            seen.append(refusal is None)
            if refusal:
                self.assertEqual(told, refusal)
            else:
                free = [name for name in office.table.names() if name not in sum(rows.values(), [])]
                left = [name for name in free if office.trips[name][3] > now]
                self.assertEqual(standing(told), (rows, left, [name for name in free if name not in left]))
        self.assertGreater(min(seen.count(True), seen.count(False)), 50)


class Ticks(DayCase):
    def test_the_same_minute_one_later_one_earlier(self):
        day = Day(TABLE, Judge(), {"k": ["a"]}, 9)
        for minute, lost in ((9, []), (9, []), (10, ["d"]), (19, ["d"]), (20, ["d", "b"]), (20, ["d", "b"])):
            self.assertIsNone(day.tick(minute))
            self.assertEqual((day.now(), day.lost(), day.rows()), (minute, lost, {"k": ["a"]}))
            for earlier in (minute - 1, 0):
                self.assert_unchanged(Back, {"value": earlier}, day, day.tick, earlier)
        self.assertIsNone(day.paper())

    def test_the_bounds(self):
        day = Day(TABLE, Judge(), {"k": ["a"]}, 0)
        for minute in BOUNDS:
            self.assert_unchanged(BadNumber, {"value": minute}, day, day.tick, minute)
        day.tick(0)
        day.tick(LIMIT)
        self.assertEqual(standing(day), ({"k": ["a"]}, [], ["d", "b", "c"]))
        for minute in BOUNDS:
            self.assert_unchanged(BadNumber, {"value": minute}, day, day.tick, minute)
        self.assert_unchanged(Back, {"value": LIMIT - 1}, day, day.tick, LIMIT - 1)

    def test_lost_in_the_order_of_what_was_left(self):
        table = straight(6)
        day = Day(table, Judge(), {"k": ["t4"], "l": ["t5"]}, 0)
        self.assertEqual((day.left(), day.lost()), (["t1", "t2", "t3"], ["t0"]))
        day.fail("k")
        day.fail("l")
        self.assertEqual((day.left(), day.paper()[0]), (["t5", "t4", "t1", "t2", "t3"], ["l"]))
        day.tick(20)
        self.assertEqual((day.left(), day.lost()), (["t5", "t4", "t3"], ["t0", "t1", "t2"]))
        day.tick(50)
        self.assertEqual((day.left(), day.lost()), ([], ["t0", "t1", "t2", "t5", "t4", "t3"]))

    def test_what_is_lost_stays_lost(self):
        day = Day(straight(3), Judge(), {"k": []}, 0)
        day.tick(10)
        self.assertEqual((day.left(), day.lost()), (["t2"], ["t0", "t1"]))
        day.put_in(("e", "h", "h", 11, 12, 0))
        self.assertEqual(day.lost(), ["t0", "t1"])
        self.assert_unchanged(Done, {"name": "t1"}, day, day.late, "t1", 50)
        self.assertIn("t1", day.table().names())


class Late(DayCase):
    def test_not_begun(self):
        day = Day(TABLE, Judge(), {"k": ["a", "b", "c"]}, 0)
        self.assertIsNone(day.late("b", 16))
        self.assertEqual(day.table().trip("b"), ("b", "p", "p", 36, 40, 5))
        self.assertEqual((day.rows(), day.left(), day.paper()[0]), ({"k": ["a", "b"]}, ["c", "d"], ["k"]))

    def test_where_the_next_trip_can_just_be_come_to(self):
        for minutes, row in ((11, ["a", "b", "c"]), (12, ["a", "b", "c"]), (13, None)):
            day = Day(TABLE, Judge(), {"k": ["a", "b", "c"]}, 0)
            day.late("b", minutes)
            if row:
                self.assertEqual((day.rows(), day.paper()[0]), ({"k": row}, []))
            else:
                self.assertEqual((len(day.rows()["k"]), day.paper()[0]), (2, ["k"]))

    def test_at_the_edges_of_now(self):
        for now, start, finish in ((9, 11, 16), (10, 10, 16), (11, 10, 16), (14, 10, 16)):
            day = Day(TABLE, Judge(), {"k": ["a", "b"]}, now)
            day.late("a", 1)
            self.assertEqual(day.table().trip("a"), ("a", "p", "p", start, finish, 2))
        for now in (15, 16, 19, 20, 99):
            day = Day(TABLE, Judge(), {"k": ["a", "b"]}, now)
            self.assert_unchanged(Done, {"name": "a"}, day, day.late, "a", 1)

    def test_a_begun_trip_with_one_behind_it(self):
        table = Table(Roads(["h"], []), [("x", "h", "h", 10, 20, 0), ("y", "h", "h", 20, 30, 0)])
        day = Day(table, Judge(), {"k": ["x", "y"]}, 19)
        day.late("x", 1)
        self.assertEqual(standing(day), ({"k": ["x"]}, ["y"], []))
        day = Day(table, Judge(), {"k": ["x", "y"]}, 20)
        self.assert_unchanged(Done, {"name": "x"}, day, day.late, "x", 1)
        day.late("y", 5)
        self.assertEqual(day.table().trip("y"), ("y", "h", "h", 20, 35, 0))

    def test_a_begun_trip_that_goes_on_and_on(self):
        day = Day(TABLE, Judge(), {"k": ["a", "b"]}, 10)
        day.late("a", 5)
        self.assertEqual(day.rows(), {"k": ["a", "b"]})
        day.late("a", 1)
        self.assertEqual((day.rows(), day.left()), ({"k": ["a", "c"]}, ["b"]))
        day.tick(19)
        day.late("a", 2)
        self.assertEqual(day.table().trip("a"), ("a", "p", "p", 10, 23, 2))
        day.tick(20)
        self.assertEqual(day.lost(), ["d", "b"])
        day.tick(23)
        self.assert_unchanged(Done, {"name": "a"}, day, day.late, "a", 1)

    def test_a_trip_that_is_left(self):
        day = Day(TABLE, Judge(), {"k": ["a"]}, 9)
        day.fail("k")
        self.assertEqual(day.left(), ["a", "d", "b", "c"])
        day.late("d", 100)
        self.assertEqual((day.left(), day.table().trip("d")), (["a", "d", "b", "c"], ("d", "h", "p", 110, 130, 0)))
        day.tick(109)
        self.assertEqual((day.left(), day.lost()), (["d"], ["a", "b", "c"]))

    def test_beyond_what_the_judge_lets_by(self):
        day = Day(TABLE, CarJudge("h", [("k", 9, 16), ("l", 9, 12)]), {"k": ["a", "b"], "l": []}, 10)
        day.late("a", 1)
        self.assertEqual((day.rows(), day.paper()[0]), ({"k": ["a", "c"], "l": ["b"]}, ["k"]))

    def test_refused_in_order(self):
        day = Day(TABLE, Judge(), {"k": ["a", "b"]}, 20)
        for name in ("x", "", "A b\n"):
            for minutes in (0, 1, LIMIT + 1):
                self.assert_unchanged(NoTrip, {"name": name}, day, day.late, name, minutes)
        for minutes in (0,) + BOUNDS:
            for name in ("a", "b", "c", "d"):
                self.assert_unchanged(BadNumber, {"value": minutes}, day, day.late, name, minutes)
        for name in ("a", "d"):
            for minutes in (1, LIMIT):
                self.assert_unchanged(Done, {"name": name}, day, day.late, name, minutes)
        self.assert_unchanged(BadNumber, {"value": LIMIT + 24}, day, day.late, "b", LIMIT)
        self.assert_unchanged(BadNumber, {"value": LIMIT + 40}, day, day.late, "c", LIMIT)
        self.assert_unchanged(BadNumber, {"value": LIMIT + 1}, day, day.late, "c", LIMIT - 40)
        self.assert_unchanged(BadNumber, {"value": LIMIT + 1}, day, day.late, "b", LIMIT - 23)
        day.late("b", LIMIT - 24)
        day.late("c", LIMIT - 41)
        self.assertEqual([day.table().trip(name)[3:5] for name in "bc"], [(20, LIMIT), (LIMIT - 1, LIMIT)])


class PutIn(DayCase):
    def test_taken(self):
        day = Day(TABLE, Judge(), {"k": ["a", "b"], "l": []}, 10)
        self.assertIsNone(day.put_in(("e", "p", "p", 11, 12, 0)))
        self.assertEqual((day.rows()["k"], day.lost()), (["a", "b"], ["d"]))
        self.assertEqual(sorted(day.rows()["l"] + day.left()), ["c", "e"])
        self.assertEqual(len(day.left()), 1)
        self.assertEqual(day.paper()[1][0], [["b"], ["c"], ["e"]])
        self.assertEqual(day.table().names(), ["a", "d", "e", "b", "c"])

    def test_starts_at_the_edge_of_now(self):
        for start in (9, 10):
            day = Day(TABLE, Judge(), {"k": []}, 10)
            self.assert_unchanged(Past, {"name": "e"}, day, day.put_in, ("e", "h", "h", start, 99, 0))
        day = Day(TABLE, Judge(), {"k": ["b"]}, 10)
        day.put_in(("e", "h", "h", 11, 99, 0))
        self.assertEqual(day.left(), ["c", "e"])

    def test_forty_and_forty_one(self):
        table = straight(39)
        day = Day(table, Judge(), {"k": table.names()}, 0)
        day.put_in(("e", "h", "h", 7, 8, 0))
        self.assertEqual((len(day.table().names()), day.left()), (40, ["e"]))
        for trip in (("f", "h", "h", 7, 8, 0), ("A", "moon", "moon", -1, -2, -3), ("f", "h", "h", 0, 8, 0)):
            self.assert_unchanged(TooMany, {"most": 40}, day, day.put_in, trip)

    def test_refused_as_a_table_refuses(self):
        day = Day(TABLE, Judge(), {"k": ["a", "b"]}, 20)
        low, high = -1, LIMIT + 1
        for trip, kind, fields in (
            (("A", "moon", "h", low, low, low), BadName, {"name": "A"}),
            (("a", "moon", "h", low, low, low), Twice, {"name": "a"}),
            (("d", "moon", "h", low, low, low), Twice, {"name": "d"}),
            (("e", "moon", "sun", low, low, low), NoPlace, {"name": "moon"}),
            (("e", "h", "sun", low, low, low), NoPlace, {"name": "sun"}),
            (("e", "h", "in", low, high, -2), BadNumber, {"value": low}),
            (("e", "h", "in", 0, high, -2), BadNumber, {"value": high}),
            (("e", "h", "in", 0, 0, -2), BadNumber, {"value": -2}),
            (("e", "h", "in", 5, 5, 0), Backward, {"name": "e"}),
            (("e", "h", "in", 5, 6, 0), NoWay, {"origin": "h", "goal": "in"}),
            (("e", "h", "p", 5, 7, 0), TooFast, {"name": "e"}),
            (("e", "h", "p", 5, 8, 0), Past, {"name": "e"}),
            (("e", "h", "p", 20, 23, 0), Past, {"name": "e"}),
        ):
            self.assert_unchanged(kind, fields, day, day.put_in, trip)
        day.put_in(("e", "h", "p", 21, 24, 0))


class Fail(DayCase):
    def test_a_key_that_has_begun_trips(self):
        day = Day(TABLE, CarJudge("h", CARS), {"k": ["a", "b"], "l": []}, 10)
        self.assertIsNone(day.fail("k"))
        self.assertEqual(standing(day), ({"k": ["a"], "l": ["b"]}, ["c"], ["d"]))
        self.assertEqual(day.paper()[0], ["k"])
        day.tick(15)
        day.put_in(("e", "p", "p", 16, 17, 0))
        self.assertEqual((day.rows()["k"], day.left()), (["a"], ["c", "e"]))
        day.late("b", 1)
        self.assertEqual(day.rows()["k"], ["a"])

    def test_all_keys(self):
        day = Day(straight(5), Judge(), {"k": ["t0", "t1"], "l": ["t2"], "m": []}, 0)
        for key, left in (("l", 2), ("m", 3), ("k", 4)):
            day.fail(key)
            self.assertEqual(len(day.left()), left)
        self.assertEqual(day.rows(), {"k": ["t0"], "l": [], "m": []})

    def test_refused(self):
        day = Day(TABLE, CarJudge("h", CARS), {"k": ["a", "b"], "l": []}, 10)
        for key in ("m", "z", ""):
            self.assert_unchanged(NoKey, {"name": key}, day, day.fail, key)
        day.fail("k")
        day.fail("l")
        for key in ("k", "l"):
            self.assert_unchanged(Failed, {"name": key}, day, day.fail, key)
        self.assert_unchanged(NoKey, {"name": "m"}, day, day.fail, "m")


class Walks(DayCase):
    """Days led by random deeds, beside the same reckoned plainly."""

    def setUp(self):
        self.seen = []

    def start(self, source):
        """A day whose rows stand, with an office and a judge reckoned plainly."""
        while True:
            office = random_office(source, most_ways=14, count=source.randint(0, 6), latest=40)
            keys = ["k", "l", "m"][:source.randint(1, 3)]
            asked = random_judge(source, office, keys, strangers=0)
            rows = {key: [] for key in keys}
            for name in office.table.names():
                key = source.choice(keys)
                if asked.may_drive(office, key, rows[key] + [name]):
                    rows[key].append(name)
            if sum(rows.values(), []) or source.random() < 0.1:
                now = source.choice([0, source.randint(0, 20)])
                return office, asked, Day(office.table, asked.judge, rows, now)

    def random_deed(self, source, office, day):
        names = list(office.trips) + ["x"]
        start = source.randint(day.now() - 2, day.now() + 20)
        trip = (
            source.choice([f"e{len(office.trips)}"] * 8 + names), source.choice(office.places * 5 + ["moon"]),
            source.choice(office.places * 5 + ["moon"]), start, start + source.randint(-1, 15), source.randint(-1, 9),
        )
        return source.choice([
            ("tick", day.now() + source.randint(-1, 12)), ("fail", source.choice(list(day.rows()) + ["z"])),
            ("late", source.choice(names), source.choice([0, 1, 2, 5, 15, LIMIT])), ("put_in", trip),
            ("late", source.choice(names), source.randint(1, 20)), ("put_in", trip),
        ])

    def late_refusal(self, office, day, name, minutes):
        if name not in office.trips:
            return (NoTrip, {"name": name})
        if not 1 <= minutes <= LIMIT:
            return (BadNumber, {"value": minutes})
        start, finish = office.trips[name][3:5]
        if start <= day.now():
            rows = [plain_begun(office, names, day.now()) for names in day.rows().values()]
            if name in day.lost() or finish <= day.now() or any(name in names[:-1] for names in rows):
                return (Done, {"name": name})
            start -= minutes
        for value in (start + minutes, finish + minutes):
            if value > LIMIT:
                return (BadNumber, {"value": value})
        return None

    def refusal(self, office, day, failed, deed):
        now = day.now()
        if deed[0] == "tick":
            if not 0 <= deed[1] <= LIMIT:
                return (BadNumber, {"value": deed[1]})
            return (Back, {"value": deed[1]}) if deed[1] < now else None
        if deed[0] == "late":
            return self.late_refusal(office, day, deed[1], deed[2])
        if deed[0] == "fail":
            if deed[1] not in day.rows():
                return (NoKey, {"name": deed[1]})
            return (Failed, {"name": deed[1]}) if deed[1] in failed else None
        past = (Past, {"name": deed[1][0]}) if deed[1][3] <= now else None
        return trip_refusal(office, deed[1]) or past

    def office_behind(self, office, day, deed):
        trips = dict(office.trips)
        if deed[0] == "put_in":
            trips[deed[1][0]] = deed[1]
        if deed[0] == "late":
            name, origin, goal, start, finish, seats = trips[deed[1]]
            begin = start if start <= day.now() else start + deed[2]
            trips[name] = (name, origin, goal, begin, finish + deed[2], seats)
        return Office(office.places, office.ways, list(trips.values()))

    def assert_tick(self, office, before, day, minute):
        _, rows, left, lost, trips, paper = before
        gone = [name for name in left if office.trips[name][3] <= minute]
        kept = [name for name in left if name not in gone]
        self.assertEqual(state(day), (minute, rows, kept, lost + gone, trips, paper))

    def assert_news(self, office, asked, before, day, deed, failed):
        now, rows, left, lost, _, _ = before
        loose = left + ([deed[1][0]] if deed[0] == "put_in" else [])
        changed, paper = day.paper()
        told = (day.rows(), day.left(), changed, paper)
        self.assert_mended(told, office, asked, dict(rows), now, loose, failed)
        self.assertEqual((day.now(), day.lost()), (now, lost))

    def assert_whole(self, office, asked, day, begun_before):
        table, rows = day.table(), day.rows()
        self.assertEqual({name: table.trip(name) for name in table.names()}, office.trips)
        self.assertEqual(sorted(sum(rows.values(), day.left() + day.lost())), sorted(office.trips))
        for key, names in rows.items():
            had = plain_begun(office, names, day.now())
            self.assertEqual(had[:len(begun_before[key])], begun_before[key])
            begun_before[key] = had
            if len(had) < len(names):
                self.assertTrue(asked.may_drive(office, key, names))
        for name in day.left():
            self.assertGreater(office.trips[name][3], day.now())

    def walk(self, source):
        office, asked, day = self.start(source)
        failed, begun_before = [], {key: [] for key in day.rows()}
        for _ in range(source.randint(1, 12)):
            deed, before = self.random_deed(source, office, day), state(day)
            refusal = self.refusal(office, day, failed, deed)
            told = outcome(getattr(day, deed[0]), *deed[1:])
            self.assertEqual(told, refusal)
            self.seen.append((deed[0], refusal and refusal[0]))
            if refusal:
                self.assertEqual(state(day), before)
                continue
            office = self.office_behind(office, day, deed)
            failed = failed + [deed[1]] * (deed[0] == "fail")
            if deed[0] == "tick":
                self.assert_tick(office, before, day, deed[1])
            else:
                self.assert_news(office, asked, before, day, deed, failed)
            self.assert_whole(office, asked, day, begun_before)

    def test_random_days(self):
        source = random.Random(79)
        for _ in range(400):
            self.walk(source)
        for deed, kinds in (
            ("tick", (None, Back)), ("fail", (None, NoKey, Failed)), ("late", (None, NoTrip, BadNumber, Done)),
            ("put_in", (None, Twice, NoPlace, BadNumber, Backward, NoWay, TooFast, Past)),
        ):
            for kind in kinds:
                self.assertGreater(self.seen.count((deed, kind)), 3, (deed, kind))


class Kept(DayCase):
    def test_paper_ahead_of_news_and_behind(self):
        day = Day(TABLE, Judge(), {"k": ["a", "b"], "l": []}, 0)
        self.assertIsNone(day.paper())
        day.tick(1)
        self.assertIsNone(day.paper())
        self.assert_refused(NoKey, {"name": "z"}, day.fail, "z")
        self.assertIsNone(day.paper())
        day.fail("k")
        told = day.paper()
        self.assertEqual((type(told), told[0], told[1][0]), (tuple, ["k"], [["a", "b"], ["d"], ["c"]]))
        day.tick(2)
        self.assertEqual(day.paper(), told)
        day.late("c", 1)
        self.assertNotEqual(day.paper(), told)

    def test_what_was_handed_in_may_be_changed(self):
        rows, cars = {"k": ["a", "b"], "l": []}, list(CARS)
        day = Day(TABLE, CarJudge("h", cars), rows, 0)
        before = state(day)
        rows["k"].clear()
        rows["z"] = []
        cars.clear()
        self.assertEqual(state(day), before)
        day.fail("l")
        self.assertEqual(day.rows()["k"], ["a", "b"])

    def test_what_was_told_is_the_askers(self):
        day = Day(TABLE, Judge(), {"k": ["a", "b"], "l": []}, 10)
        day.fail("k")
        before = copy.deepcopy(state(day))
        rows, left, lost, table, (changed, paper) = day.rows(), day.left(), day.lost(), day.table(), day.paper()
        kept = copy.deepcopy((rows, left, lost, changed, paper))
        rows["k"].append("q")
        rows["q"] = []
        left.append("q")
        lost.clear()
        changed.clear()
        paper[0][0].append("q")
        paper[1][0].clear()
        for part in paper[1:]:
            part.clear()
        table.roads = None
        self.assertEqual(state(day), before)
        rows, left, lost, (changed, paper) = day.rows(), day.left(), day.lost(), day.paper()
        day.tick(20)
        day.late("c", 5)
        day.put_in(("e", "h", "h", 90, 91, 0))
        self.assertEqual((rows, left, lost, changed, paper), kept)

    def test_the_table_handed_in_stays(self):
        day = Day(TABLE, Judge(), {"k": ["a", "b"]}, 10)
        day.late("b", 3)
        day.put_in(("e", "h", "h", 90, 91, 0))
        self.assertEqual((TABLE.names(), TABLE.trip("b")), (["a", "d", "b", "c"], TRIPS[1]))
        self.assertEqual(day.table().roads.names(), PLACES)
        self.assertIs(type(day.table()), Table)

    def test_two_days_know_nothing_of_each_other(self):
        judge, rows = CarJudge("h", CARS), {"k": ["a", "b"], "l": []}
        one, other = Day(TABLE, judge, rows, 5), Day(TABLE, judge, rows, 5)
        before = state(other)
        one.fail("k")
        one.late("c", 5)
        one.put_in(("e", "h", "h", 90, 91, 0))
        one.tick(50)
        self.assertEqual(state(other), before)
        other.fail("k")
        self.assertEqual(len(other.table().names()), 4)
