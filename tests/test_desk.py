import random

from fleetpath import desk as module
from fleetpath.blocks import TooLong, cut, legs
from fleetpath.care import Crowded, NoNight, care
from fleetpath.chains import chains
from fleetpath.checker import bounds_hold, care_holds, cars_hold, giving_holds
from fleetpath.clock import shown
from fleetpath.day import Back, Day, Done, Failed, Past
from fleetpath.desk import DayOpen, Desk, NoDay, NoHome
from fleetpath.drivers import give_drivers
from fleetpath.duties import Unlawful, lawful
from fleetpath.errors import (
    LIMIT, BadName, BadNumber, BadTime, FleetError, NoPlace, NoTrip, NoWay, TooMany, Twice,
)
from fleetpath.giving import TooFew, give_cars
from fleetpath.hours import AllOf, Pause, Shift, Span, Work
from fleetpath.judges import CarJudge, NoKey
from fleetpath.links import links
from fleetpath.texts import BadLine, BadWord
from fleetpath.trips import Backward, Table, TooFast
from tests.helper import Case, Office, outcome, plain_fewest_chains, plain_may, random_office, random_weeks

SETS = [
    "place x", "way a b 1", "trip x a b 0.00:00 0.01:00 0", "car x 1 1", "home a", "driver x a 0 0 9",
    "week x 0 9 1 1 1 1 1 1 1", "rule span 9", "rule work 9", "rule pause 9 1", "rule shift 0.00:00 0.01:00",
]
ASKS = ["length a b", "road a b", "chains", "care 1", "blocks 99", "give 99", "duties 99", "drive 99"]
IN_DAY = ["tick 0.00:00", "late a 1", "put x a b 0.00:01 0.01:00 0", "fail x", "rows"]
OPENS = "open 99"

# From h the trips a and b can be driven by one car in 16 minutes; d only by another one.
OFFICE = [
    "place h", "place p", "place out", "way h p 3", "way p h 4", "way h out 1",
    "trip a p p 0.00:10 0.00:15 2", "trip b p p 0.00:20 0.00:24 5", "trip d p p 0.00:12 0.00:13 1",
]
CARS = ["car k 5 16", "car l 9 99", "car m 9 99"]


def told(lines):
    desk = Desk()
    for line in lines:
        desk.run(line)
    return desk


def opened(extra=()):
    return told(OFFICE + ["home h"] + CARS + list(extra) + ["open 16"])


def view(desk):
    """What the desk answers to all that can be asked."""
    places = ["h", "p", "out", "x"]
    lines = [f"{word} {one} {other}" for word in ("length", "road") for one in places for other in places]
    lines += ["chains", "rows"] + [f"{word} {number}" for word in ("care", "blocks", "give", "duties", "drive")
                                   for number in (0, 1, 2, 11, 12, 16, 99)]
    return [outcome(desk.run, line) for line in lines]


class DeskCase(Case):
    def assert_line_refused(self, kind, fields, desk, line):
        """The line is refused so, and nothing is changed by it."""
        before = view(desk)
        self.assert_refused(kind, fields, desk.run, line)
        self.assertEqual(view(desk), before)


class Errors(Case):
    def test_classes(self):
        self.assert_error_classes(module, {"NoDay": [], "DayOpen": [], "NoHome": []})
        for kind in (NoDay, DayOpen, NoHome):
            self.assertEqual(vars(kind()), {})


class Lines(DeskCase):
    def test_the_number_of_words(self):
        for desk in (Desk(), opened()):
            for line in SETS + ASKS + IN_DAY + [OPENS]:
                for bad in (line + " 1", line + " a b", line.rpartition(" ")[0] or "x"):
                    self.assert_line_refused(BadLine, {"text": bad}, desk, bad)

    def test_unknown_words(self):
        for desk in (Desk(), opened()):
            for line in (
                "x", "rule", "rule x", "rule x 1", "rule 1", "rule all 1", "rule rule 1", "span 9", "places", "row",
                "left", "lost", "trips", "1", "put", "put in x a b 0.00:01 0.01:00 0", "judge", "now", "chain", "apart",
            ):
                self.assert_line_refused(BadLine, {"text": line}, desk, line)

    def test_texts_that_are_no_lines(self):
        lines = ["", " ", "rows ", " rows", "rows\n", "home  h", "Rows", "home H", "place a-b", "car k 5 -1", "x" * 17]
        for line in lines:
            for desk in (Desk(), opened()):
                self.assert_line_refused(BadLine, {"text": line}, desk, line)

    def test_lines_that_need_a_day_or_none(self):
        desk = told(OFFICE + CARS)
        for line in IN_DAY + ["tick x", "late q q", "put q q q q q q", "fail q", "tick 9"]:
            self.assert_line_refused(NoDay, {}, desk, line)
        desk = opened()
        for line in SETS + [OPENS, "open x", "place a.b", "way q q q", "trip q q q q q q", "week q q q q q q q q q q",
                            "home q", "rule pause q 0", "rule shift q q", "car q q q", "driver q q q q q"]:
            self.assert_line_refused(DayOpen, {}, desk, line)

    def test_words_from_left_to_right(self):
        desk = told(OFFICE)
        for line, kind, text in (
            ("way q q 01", BadWord, "01"), ("trip a.b q q x y z", BadTime, "x"),
            ("trip a q q 0.00:00 y z", BadTime, "y"),
            ("trip a q q 0.00:00 0.00:00 z", BadWord, "z"), ("car a.b x y", BadWord, "x"),
            ("car a.b 1 y", BadWord, "y"),
            ("driver a.b q x y z", BadWord, "x"), ("driver a.b q 1 y z", BadWord, "y"),
            ("driver a.b q 1 1 z", BadWord, "z"),
            ("week a.b x 0 1 1 1 1 1 1 y", BadWord, "x"), ("week a.b 1 x 1 1 1 1 1 1 y", BadWord, "x"),
            ("week a.b 1 0 1 1 1 1 1 1 y", BadWord, "y"), ("week a.b 1 0 x 1 1 1 1 1 y", BadWord, "x"),
            ("rule span x", BadWord, "x"), ("rule work 0.00:00", BadWord, "0.00:00"), ("rule pause x 0", BadWord, "x"),
            ("rule pause 1 x", BadWord, "x"), ("rule shift 0 x", BadTime, "0"), ("rule shift 0.00:00 1", BadTime, "1"),
            ("care x", BadWord, "x"), ("blocks x", BadWord, "x"), ("give 00", BadWord, "00"),
            ("duties 1.0", BadWord, "1.0"),
            ("drive 12345678901", BadWord, "12345678901"), ("open x", BadWord, "x"),
        ):
            self.assert_line_refused(kind, {"text": text}, desk, line)
        desk = opened()
        for line, kind, text in (
            ("tick 5", BadTime, "5"), ("tick 0.24:00", BadTime, "0.24:00"),
            ("tick 694444.10:41", BadTime, "694444.10:41"),
            ("late q x", BadWord, "x"), ("put a q q x y z", BadTime, "x"), ("put a q q 0.00:00 y z", BadTime, "y"),
            ("put a q q 0.00:00 0.00:00 z", BadWord, "z"), ("care x", BadWord, "x"),
        ):
            self.assert_line_refused(kind, {"text": text}, desk, line)

    def test_a_new_desk(self):
        desk = Desk()
        self.assertEqual(desk.run("chains"), ["cars 0", "apart"])
        self.assertEqual(desk.run("care 0"), [])
        for word in ("blocks", "give", "duties", "drive", "open"):
            self.assert_line_refused(NoHome, {}, desk, f"{word} 5")
        self.assert_line_refused(NoPlace, {"name": "a"}, desk, "length a b")
        self.assert_line_refused(NoDay, {}, desk, "rows")


class SetUp(DeskCase):
    def test_taken(self):
        desk = Desk()
        lines = OFFICE + ["home p", "home h"] + CARS + [
            "driver ann h 0 0 99", "driver bob p 1000000000 1000000000 1000000000", "driver cy out 0 0 0",
            "week k 0 1 0 0 0 0 0 0 0", "week l 1000000000 1000000000 0 0 0 0 0 0 1000000000", "rule span 0",
            "rule work 9999999999", "rule pause 0 1", "rule pause 9999999999 9999999999",
            "rule shift 0.10:00 0.00:00", "way h h 1000000000", "way h p 3",
        ]
        for line in lines:
            self.assertEqual(desk.run(line), [])

    def test_places_and_ways(self):
        desk = told(["place a", "place b"])
        for line, kind, fields in (
            ("place a", Twice, {"name": "a"}), ("place a.b", BadName, {"name": "a.b"}),
            ("place :", BadName, {"name": ":"}),
            ("place abcdefghijklm", BadName, {"name": "abcdefghijklm"}), ("way x y 0", NoPlace, {"name": "x"}),
            ("way a y 0", NoPlace, {"name": "y"}), ("way a b 0", BadNumber, {"value": 0}),
            ("way a b 1000000001", BadNumber, {"value": LIMIT + 1}),
        ):
            self.assert_line_refused(kind, fields, desk, line)
        for number in range(10):
            desk.run(f"place p{number}")
        for line in ("place x", "place a", "place a.b"):
            self.assert_line_refused(TooMany, {"most": 12}, desk, line)
        for number in range(60):
            desk.run(f"way a b {number + 1}")
        for line in ("way a b 1", "way x b 0"):
            self.assert_line_refused(TooMany, {"most": 60}, desk, line)
        self.assertEqual(desk.run("length a b"), ["length 1"])

    def test_trips(self):
        desk = told(OFFICE)
        for line, kind, fields in (
            ("trip a.b x y 0.00:01 0.00:00 0", BadName, {"name": "a.b"}),
            ("trip a x y 0.00:01 0.00:00 0", Twice, {"name": "a"}),
            ("trip e x y 0.00:01 0.00:00 0", NoPlace, {"name": "x"}),
            ("trip e h y 0.00:01 0.00:00 0", NoPlace, {"name": "y"}),
            ("trip e out h 0.00:01 0.00:00 1000000001", BadNumber, {"value": LIMIT + 1}),
            ("trip e out h 0.00:01 0.00:01 0", Backward, {"name": "e"}),
            ("trip e out h 0.00:01 0.00:02 0", NoWay, {"origin": "out", "goal": "h"}),
            ("trip e h p 0.00:01 0.00:03 0", TooFast, {"name": "e"}),
        ):
            self.assert_line_refused(kind, fields, desk, line)
        desk.run("trip e h p 0.00:01 0.00:04 1000000000")
        desk.run("trip f h h 694444.10:39 694444.10:40 0")
        for number in range(35):
            desk.run(f"trip t{number} h h 0.05:00 0.06:00 0")
        for line in ("trip x h h 0.05:00 0.06:00 0", "trip a.b x y 0.00:01 0.00:00 0"):
            self.assert_line_refused(TooMany, {"most": 40}, desk, line)

    def test_a_way_more_links_more(self):
        desk = told(["place a", "place b", "trip x a a 0.00:00 0.00:05 0", "trip y b b 0.00:10 0.00:15 0"])
        self.assertEqual(desk.run("chains")[0], "cars 2")
        desk.run("way a b 6")
        self.assertEqual(desk.run("chains")[0], "cars 2")
        desk.run("way a b 5")
        self.assertEqual(desk.run("chains"), ["cars 1", "chain x y", desk.run("chains")[2]])

    def test_cars(self):
        desk = told(OFFICE + CARS)
        for line, kind, fields in (
            ("car a.b 1000000001 1000000002", BadName, {"name": "a.b"}),
            ("car k 1000000001 1000000002", Twice, {"name": "k"}),
            ("car x 1000000001 1000000002", BadNumber, {"value": LIMIT + 1}),
            ("car x 1000000000 1000000002", BadNumber, {"value": LIMIT + 2}),
        ):
            self.assert_line_refused(kind, fields, desk, line)
        for number in range(37):
            desk.run(f"car c{number} 0 1000000000")
        for line in ("car x 1 1", "car a.b 1000000001 1"):
            self.assert_line_refused(TooMany, {"most": 40}, desk, line)

    def test_the_home(self):
        desk = told(OFFICE)
        self.assert_line_refused(NoPlace, {"name": "x"}, desk, "home x")
        self.assert_line_refused(NoHome, {}, desk, "blocks 16")
        desk.run("home out")
        self.assert_line_refused(NoPlace, {"name": "a.b"}, desk, "home a.b")
        self.assert_line_refused(NoWay, {"origin": "out", "goal": "p"}, desk, "blocks 16")
        desk.run("home h")
        self.assertEqual(desk.run("blocks 16")[:2], ["low 2", "high 2"])

    def test_drivers(self):
        desk = told(OFFICE + ["driver ann h 0 0 9"])
        for line, kind, fields in (
            ("driver a.b x 1000000001 1000000002 1000000003", BadName, {"name": "a.b"}),
            ("driver ann x 1000000001 1000000002 1000000003", Twice, {"name": "ann"}),
            ("driver x x 1000000001 1000000002 1000000003", BadNumber, {"value": LIMIT + 1}),
            ("driver x x 1000000000 1000000002 1000000003", BadNumber, {"value": LIMIT + 2}),
            ("driver x x 1000000000 1000000000 1000000003", BadNumber, {"value": LIMIT + 3}),
            ("driver x x 1000000000 1000000000 1000000000", NoPlace, {"name": "x"}),
        ):
            self.assert_line_refused(kind, fields, desk, line)
        for number in range(39):
            desk.run(f"driver d{number} p 0 0 9")
        for line in ("driver x h 0 0 9", "driver a.b x 0 0 9"):
            self.assert_line_refused(TooMany, {"most": 40}, desk, line)

    def test_weeks(self):
        desk = told(["week k 1 4 1 1 1 1 1 1 1"])
        for line, kind, fields in (
            ("week a.b 1000000001 0 1 1 1 1 1 1 1", BadName, {"name": "a.b"}),
            ("week k 1000000001 0 1 1 1 1 1 1 1", Twice, {"name": "k"}),
            ("week x 1000000001 0 1 1 1 1 1 1 1", BadNumber, {"value": LIMIT + 1}),
            ("week x 1000000000 0 1000000001 1 1 1 1 1 1", BadNumber, {"value": 0}),
            ("week x 0 1000000001 1 1 1 1 1 1 1", BadNumber, {"value": LIMIT + 1}),
            ("week x 0 1 1 1 1 1 1 1000000003 1000000004", BadNumber, {"value": LIMIT + 3}),
        ):
            self.assert_line_refused(kind, fields, desk, line)
        for number in range(39):
            desk.run(f"week w{number} 0 9 1 1 1 1 1 1 1")
        for line in ("week x 0 9 1 1 1 1 1 1 1", "week a.b 0 9 1 1 1 1 1 1 1"):
            self.assert_line_refused(TooMany, {"most": 40}, desk, line)
        self.assertEqual(desk.run("care 1"), ["care k 2"] + [f"care w{number} none" for number in range(39)])

    def test_rules(self):
        desk = told(OFFICE + ["home h"])
        for least in ("0",):
            self.assert_line_refused(BadNumber, {"value": 0}, desk, f"rule pause 5 {least}")
        for line in ("rule span 99", "rule work 99", "rule pause 99 1", "rule shift 0.00:00 0.01:00") * 2:
            desk.run(line)
        for line in ("rule span 0", "rule work 99", "rule pause 99 1", "rule pause 99 0", "rule shift 0.00:00 0.01:00"):
            self.assert_line_refused(TooMany, {"most": 8}, desk, line)
        self.assert_line_refused(BadWord, {"text": "x"}, desk, "rule pause x 0")

    def test_each_rule_at_its_edge(self):
        lines = ["place h", "home h", "trip a h h 0.00:10 0.00:15 0", "trip b h h 0.00:20 0.00:24 0"]
        for rule, high in (
            ("rule span 14", 1), ("rule span 13", 2), ("rule work 9", 1), ("rule work 8", 2), ("rule pause 5 5", 1),
            ("rule pause 5 6", 2), ("rule shift 0.00:10 0.00:24", 1),
        ):
            self.assertEqual(told(lines + [rule]).run("duties 99")[1], f"high {high}")
        for rule, name in (
            ("rule shift 0.00:11 0.00:24", "a"), ("rule shift 0.00:10 0.00:23", "b"), ("rule span 4", "a"),
            ("rule pause 4 1", "a"),
        ):
            for other in ("rule span 99", "rule work 99"):
                self.assert_refused(Unlawful, {"name": name}, told(lines + [other, rule]).run, "duties 99")
                self.assert_refused(Unlawful, {"name": name}, told(lines + [rule, other]).run, "duties 99")


class Asks(DeskCase):
    def test_lengths_and_roads(self):
        desk = told([
            "place a", "place b", "place c", "place none", "way a b 1000000000", "way b c 1000000000", "way none a 1",
        ])
        for one, other, length, road in (
            ("a", "a", "0", "a"), ("a", "b", "1000000000", "a b"), ("a", "c", "2000000000", "a b c"),
            ("b", "a", "none", "none"),
            ("none", "none", "0", "none"), ("none", "c", "2000000001", "none a b c"),
        ):
            self.assertEqual(desk.run(f"length {one} {other}"), [f"length {length}"])
            self.assertEqual(desk.run(f"road {one} {other}"), [f"road {road}"])
        for word in ("length", "road"):
            self.assert_line_refused(NoPlace, {"name": "x"}, desk, f"{word} x y")
            self.assert_line_refused(NoPlace, {"name": "y"}, desk, f"{word} a y")

    def test_chains(self):
        lines = told(OFFICE).run("chains")
        self.assertIn(sorted(lines), [
            sorted(["cars 2", "chain a b", "chain d", apart]) for apart in ("apart a d", "apart d a")
        ] + [sorted(["cars 2", "chain d b", "chain a", apart]) for apart in ("apart a d", "apart d a")])
        self.assertEqual((lines[0], lines[-1].split()[0]), ("cars 2", "apart"))

    def test_care(self):
        desk = told(["week k 1 4 1 1 1 1 1 1 1", "week a 3 10 1 1 1 1 1 1 1", "week b 11 10 0 0 0 0 0 0 0"])
        for bays in ("0", "1"):
            self.assert_line_refused(NoNight, {"name": "b"}, desk, f"care {bays}")
        self.assert_line_refused(BadNumber, {"value": LIMIT + 1}, desk, "care 1000000001")
        desk = told(["week k 1 4 1 1 1 1 1 1 1", "week a 3 10 1 1 1 1 1 1 1", "week l 1 4 1 1 1 1 1 1 1"])
        self.assertEqual(desk.run("care 2"), ["care k 2", "care a none", "care l 2"])
        self.assert_refused(Crowded, {}, desk.run, "care 1")

    def test_blocks_without_trips(self):
        desk = told(["place h", "home h"])
        self.assertEqual(desk.run("blocks 0"), ["low 0", "high 0"])
        self.assertEqual(desk.run("give 0"), [])
        self.assertEqual(desk.run("duties 0"), ["low 0", "high 0"])
        self.assertEqual(desk.run("drive 0"), [])

    def test_no_home_ahead_of_all_else(self):
        desk = told(OFFICE)
        for word in ("blocks", "give", "duties", "drive", "open"):
            for number in ("0", "99", "9999999999"):
                self.assert_line_refused(NoHome, {}, desk, f"{word} {number}")

    def test_too_long_and_no_way(self):
        desk = told(OFFICE + ["home h"])
        for word in ("blocks", "give", "duties", "drive", "open"):
            self.assert_line_refused(TooLong, {"name": "a"}, desk, f"{word} 11")
        desk = told(OFFICE + ["trip o out out 0.02:00 0.02:01 0", "home h"])
        for word in ("blocks", "give", "duties", "drive", "open"):
            self.assert_line_refused(NoWay, {"origin": "out", "goal": "h"}, desk, f"{word} 16")

    def test_too_few_cars_and_drivers(self):
        desk = told(OFFICE + ["home h", "car k 5 16"])
        for word in ("give", "open"):
            with self.assertRaises(TooFew) as caught:
                desk.run(f"{word} 16")
            self.assertEqual((sorted(caught.exception.lefts), caught.exception.rights), ([0, 1], ["k"]))
        self.assert_line_refused(NoDay, {}, desk, "rows")
        with self.assertRaises(TooFew) as caught:
            told(OFFICE + ["home h", "driver ann h 0 0 99"]).run("drive 16")
        self.assertEqual((sorted(caught.exception.lefts), caught.exception.rights), ([0, 1], ["ann"]))

    def test_legs_beyond_the_bounds(self):
        lines = ["place h", "place p", "way h p 3", "way p h 4", "home h", "car k 0 99"]
        desk = told(lines + ["trip a p p 0.00:02 0.00:03 0"])
        for word in ("duties", "drive"):
            self.assert_line_refused(BadNumber, {"value": -1}, desk, f"{word} 16")
        self.assertEqual(desk.run("give 16"), ["car k a"])
        desk = told(lines + ["trip a p p 694444.10:00 694444.10:37 0"])
        for word in ("duties", "drive"):
            self.assert_line_refused(BadNumber, {"value": LIMIT + 1}, desk, f"{word} 99")

    def test_too_many_duties(self):
        lines = [f"trip t{number} h h 0.00:{10 + number} 0.00:{11 + number} 0" for number in range(10)]
        desk = told(["place h", "home h"] + lines)
        for word in ("duties", "drive"):
            self.assert_line_refused(TooMany, {"most": 400}, desk, f"{word} 99")

    def test_shares_in_the_order_of_the_table_of_legs(self):
        desk = told(OFFICE + ["home h", "driver ann h 0 0 99", "driver bob h 0 0 99", "rule span 21"])
        lines = desk.run("duties 16")
        self.assertEqual(lines[:2], ["low 2", "high 2"])
        self.assertEqual([name for name, _, _ in split(lines, "share")], ["a", "d", "b"])
        self.assertEqual(sorted(line.split()[0] for line in desk.run("drive 16")), ["driver", "driver"])


def office_lines(office):
    return (
        [f"place {place}" for place in office.places]
        + [f"way {one} {other} {length}" for one, other, length in office.ways]
        + [f"trip {name} {one} {other} {shown(start)} {shown(finish)} {seats}"
           for name, one, other, start, finish, seats in office.trips.values()]
    )


class Random:
    """An office of any size, with cars, drivers, weeks and rules, as parts and as lines."""

    def __init__(self, source, count):
        self.office = random_office(source, most_places=3, most_ways=12, count=count, latest=60)
        later = [(name, one, other, start + 9, finish + 9, seats)
                 for name, one, other, start, finish, seats in self.office.trips.values()]
        self.office = Office(self.office.places, self.office.ways, later)
        self.home = source.choice(self.office.places)
        self.cars = [
            (f"c{number}", source.randint(5, 12), source.randint(10, 60)) for number in range(source.randint(3, 6))
        ]
        self.drivers = [
            (f"d{number}", source.choice(self.office.places), 0, source.randint(0, 9), source.randint(40, 99))
            for number in range(source.randint(1, 4))
        ]
        self.weeks = random_weeks(source, source.randint(0, 5))
        rules = [
            (Span(60), "rule span 60"), (Work(40), "rule work 40"), (Pause(25, 2), "rule pause 25 2"),
            (Shift(0, 95), "rule shift 0.00:00 0.01:35"),
        ]
        chosen = source.sample(rules, source.randint(0, 3))
        self.rule = AllOf([rule for rule, _ in chosen])
        self.lines = office_lines(self.office) + [f"home {self.home}"] + [line for _, line in chosen] + [
            f"car {name} {seats} {reach}" for name, seats, reach in self.cars
        ] + [
            f"driver {name} {home} {ended} {rest} {last}" for name, home, ended, rest, last in self.drivers
        ] + [f"week {name} {metre} {due} {' '.join(map(str, loads))}" for name, metre, due, loads in self.weeks]

    def blocks(self, limit):
        table = self.office.table
        return [piece for chain in chains(links(table)) for piece in cut(table, self.home, chain, limit)]

    def given(self, limit):
        return give_cars(self.office.table, self.home, self.blocks(limit), self.cars)

    def legs(self, limit):
        table = self.office.table
        return Table(table.roads, legs(table, self.home, self.blocks(limit)))

    def duties(self, limit):
        table = self.legs(limit)
        return lawful(table, self.home, self.rule)


def split(lines, word):
    return [line.split()[1:] for line in lines if line.split()[0] == word]


class AnyOffice(DeskCase):
    """What the desk tells of offices, against the stages beneath and against plain searches."""

    def offices(self, seed, rounds, most):
        source = random.Random(seed)
        for _ in range(rounds):
            office = Random(source, source.randint(0, most))
            yield office, told(office.lines), source.choice([20, 25, 30, 60])

    def assert_as_beneath(self, asked, line, ask):
        """The line is refused just as what is beneath; else its answer."""
        beneath = outcome(ask)
        answer = outcome(asked.run, line)
        if isinstance(beneath, tuple) and isinstance(beneath[0], type):
            self.assertEqual(answer, beneath)
            return None
        self.assertIsInstance(answer, list)
        self.assertTrue(all(isinstance(text, str) for text in answer))
        return answer

    def look(self, office, desk, limit):
        self.look_at_ways(office.office, desk)
        self.look_at_chains(office.office, desk)
        self.look_at_care(office, desk, limit % 3)
        self.look_at_blocks(office, desk, limit)
        self.look_at_cars(office, desk, limit)
        return self.look_at_duties(office, desk, limit)

    def look_at_ways(self, office, desk):
        for one in office.places:
            for other in office.places:
                length = office.length(one, other)
                answer = "none" if length is None else str(length)
                self.assertEqual(desk.run(f"length {one} {other}"), [f"length {answer}"])
                road = desk.run(f"road {one} {other}")[0].split()
                if length is None:
                    self.assertEqual(road, ["road", "none"])
                else:
                    steps = [min(way[2] for way in office.ways if way[:2] == step) for step in zip(road[1:], road[2:])]
                    self.assertEqual((road[0], road[1], road[-1], sum(steps)), ("road", one, other, length))

    def look_at_chains(self, office, desk):
        lines = desk.run("chains")
        told_chains, apart = split(lines, "chain"), split(lines, "apart")
        self.assertEqual([line.split()[0] for line in lines], ["cars"] + ["chain"] * len(told_chains) + ["apart"])
        self.assertEqual(lines[0], f"cars {len(told_chains)}")
        self.assertTrue(cars_hold(office.table, told_chains, apart[0]))
        if len(office.trips) <= 5:
            order = {one: [other for other in office.trips if office.linked(one, other)] for one in office.trips}
            self.assertEqual(len(told_chains), plain_fewest_chains(order))

    def look_at_care(self, office, desk, bays):
        lines = outcome(desk.run, f"care {bays}")
        beneath = outcome(care, office.weeks, bays)
        if isinstance(beneath, dict):
            cared = {line.split()[1]: line.split()[2] for line in lines}
            self.assertEqual([line.split()[0::2][0] for line in lines], ["care"] * len(office.weeks))
            self.assertEqual(list(cared), [week[0] for week in office.weeks])
            nights = {name: None if night == "none" else int(night) for name, night in cared.items()}
            self.assertTrue(care_holds(office.weeks, bays, nights))
        else:
            self.assertEqual(lines[0], beneath[0])

    def look_at_blocks(self, office, desk, limit):
        lines = self.assert_as_beneath(desk, f"blocks {limit}", lambda: office.blocks(limit))
        if lines is not None:
            blocks = split(lines, "block")
            low = len(split(desk.run("chains"), "chain"))
            self.assertEqual(lines[:2], [f"low {low}", f"high {len(blocks)}"])
            self.assertEqual(lines[2:], [" ".join(["block"] + names) for names in blocks])
            self.assertEqual(sorted(sum(blocks, [])), sorted(office.office.trips))
            for names in blocks:
                self.assertIsNone(office.office.block_refusal(office.home, names))
                self.assertLessEqual(office.office.driven(office.home, names), limit)

    def look_at_cars(self, office, desk, limit):
        lines = self.assert_as_beneath(desk, f"give {limit}", lambda: office.given(limit))
        if lines is not None:
            given = split(lines, "car")
            self.assertEqual(len(given), len(lines))
            blocks, names = [names[1:] for names in given], [names[0] for names in given]
            self.assertEqual(sorted(sum(blocks, [])), sorted(office.office.trips))
            self.assertTrue(giving_holds(office.office.table, office.home, blocks, office.cars, names))

    def look_at_duties(self, office, desk, limit):
        lines = self.assert_as_beneath(desk, f"duties {limit}", lambda: office.duties(limit))
        if lines is None:
            self.assert_as_beneath(desk, f"drive {limit}", lambda: office.duties(limit))
            return "refused"
        table = office.legs(limit)
        duties, shares = split(lines, "duty"), split(lines, "share")
        bounds = (
            int(split(lines, "low")[0][0]), int(split(lines, "high")[0][0]), duties,
            {name: (int(top), int(bottom)) for name, top, bottom in shares},
        )
        self.assertTrue(bounds_hold(table, office.home, office.rule, bounds))
        self.assertEqual([line.split()[0] for line in lines],
                         ["low", "high"] + ["duty"] * len(duties) + ["share"] * len(shares))
        self.assertEqual([name for name, _, _ in shares], table.names())
        return self.look_at_drivers(office, desk, limit, table, duties)

    def look_at_drivers(self, office, desk, limit, table, duties):
        ask = lambda: give_drivers(table, office.rule, duties, office.drivers)
        lines = self.assert_as_beneath(desk, f"drive {limit}", ask)
        if lines is None:
            return "too few"
        given = split(lines, "driver")
        self.assertEqual(sorted(sum([names[1:] for names in given], [])), sorted(table.names()))
        self.assertEqual((len(given), len({names[0] for names in given})), (len(lines), len(lines)))
        plain = Office(office.office.places, office.office.ways, [table.trip(name) for name in table.names()])
        drivers = {asked[0]: asked for asked in office.drivers}
        for name, *names in given:
            self.assertTrue(plain_may(plain, office.rule, drivers[name], names))
        return "driven"

    def test_small_ones(self):
        seen = [self.look(*told_so) for told_so in self.offices(94, 250, 5)]
        for kind in ("refused", "too few", "driven"):
            self.assertGreater(seen.count(kind), 20)

    def test_great_ones(self):
        for told_so in self.offices(95, 12, 40):
            self.look(*told_so)

    def test_shares_that_tell_fewer_duties(self):
        trips = [(f"t{number}", "h", "h", 10, 15, 0) for number in range(4)] + [("late", "h", "h", 20, 22, 0)]
        office = Office(["h"], [], trips)
        desk = told(office_lines(office) + ["home h"])
        lines = desk.run("duties 99")
        self.assertEqual(lines[:2], ["low 3", "high 4"])
        shares = {name: (int(top), int(bottom)) for name, top, bottom in split(lines, "share")}
        self.assertTrue(bounds_hold(office.table, "h", AllOf([]), (3, 4, split(lines, "duty"), shares)))

    def test_forty_trips_in_pairs(self):
        lines = ["place h", "home h"]
        for number in range(20):
            lines += [f"trip a{number} h h 0.01:{10 + number} 0.01:{30 + number} 0",
                      f"trip b{number} h h 0.02:{10 + number} 0.02:{30 + number} 0", f"car c{number} 0 40",
                      f"driver d{number} h 0 0 200"]
        desk = told(lines)
        self.assertEqual(desk.run("blocks 40")[:2], ["low 20", "high 20"])
        self.assertEqual(desk.run("blocks 20")[:2], ["low 20", "high 40"])
        self.assertEqual(len(desk.run("give 40")), 20)
        self.assert_refused(TooFew, {}, desk.run, "give 39")
        self.assert_refused(TooMany, {"most": 400}, desk.run, "duties 40")
        desk.run("rule span 30")
        self.assertEqual(desk.run("duties 40")[:2], ["low 40", "high 40"])
        self.assert_refused(TooFew, {}, desk.run, "drive 40")

    def test_in_a_day_too(self):
        source = random.Random(96)
        seen = 0
        for office, desk, limit in self.offices(97, 60, 5):
            if isinstance(outcome(desk.run, f"open {limit}"), list):
                seen += 1
                desk.run("put new " + f"{office.home} {office.home} 0.05:00 0.06:00 0")
                desk.run(f"fail {source.choice(office.cars)[0]}")
                desk.run("tick 0.00:20")
                self.look(office, desk, limit)
        self.assertGreater(seen, 10)


class DayLines(DeskCase):
    def test_opened(self):
        desk = told(OFFICE + ["home h"] + CARS)
        lines = desk.run("open 16")
        given = {line.split()[1]: line.split()[2:] for line in desk.run("give 16")}
        self.assertEqual(lines, [" ".join(["row", name] + given.get(name, [])) for name in "klm"] + ["left", "lost"])
        self.assertEqual(desk.run("rows"), lines)
        for limit in ("16", "0", "x"):
            self.assert_line_refused(DayOpen, {}, desk, f"open {limit}")

    def test_without_cars_and_trips(self):
        self.assertEqual(told(["place h", "home h"]).run("open 0"), ["left", "lost"])
        self.assertEqual(told(["place h", "home h", "car k 0 0"]).run("open 0"), ["row k", "left", "lost"])

    def test_trips_that_start_at_nought_have_begun(self):
        desk = told(["place h", "home h", "car k 0 99", "car l 0 99", "trip a h h 0.00:00 0.00:05 0",
                     "trip b h h 0.00:06 0.00:09 0"])
        rows = {line.split()[1]: line.split()[2:] for line in desk.run("open 99")[:2]}
        name = [key for key in rows if rows[key]][0]
        self.assertEqual(rows[name], ["a", "b"])
        other = "kl".replace(name, "")
        self.assertEqual(desk.run(f"fail {name}"), sorted([f"row {name} a", f"row {other} b"]) + ["left", "lost"])

    def test_refused_opening_leaves_no_day(self):
        desk = told(OFFICE + ["home h", "car k 5 16"])
        for line, kind in (("open 11", TooLong), ("open 16", TooFew)):
            self.assert_refused(kind, {}, desk.run, line)
            self.assert_line_refused(NoDay, {}, desk, "rows")
        desk.run("car l 9 99")
        self.assertEqual(len(desk.run("open 16")), 4)

    def test_deeds(self):
        desk = told(["place h", "home h", "car k 0 99", "car l 0 99", "trip a h h 0.00:10 0.00:15 0",
                     "trip b h h 0.00:20 0.00:25 0"])
        begin = desk.run("open 99")
        name = [line.split()[1] for line in begin if line.endswith(" a b")][0]
        other = "kl".replace(name, "")
        for line, rows in (
            ("tick 0.00:09", {name: "a b", other: "", "left": "", "lost": ""}),
            ("tick 0.00:10", {name: "a b", other: "", "left": "", "lost": ""}),
            ("late a 5", {name: "a b", other: "", "left": "", "lost": ""}),
            ("late a 1", {name: "a", other: "b", "left": "", "lost": ""}),
            ("put c h h 0.00:20 0.00:21 0", None),
            (f"fail {other}", None),
            ("tick 0.00:25", None),
        ):
            lines = desk.run(line)
            self.assertEqual(lines, desk.run("rows"))
            if rows:
                self.assertEqual(lines, [f"row {key} {rows[key]}".strip() for key in "kl"] + ["left", "lost"])
        self.assertEqual(lines[:2], [f"row {key} a".replace(f"{other} a", other) for key in "kl"])
        self.assertEqual((lines[2], sorted(lines[3].split())), ("left", ["b", "c", "lost"]))

    def test_refused_deeds(self):
        desk = opened()
        desk.run("tick 0.00:12")
        for line, kind, fields in (
            ("tick 0.00:11", Back, {"value": 11}), ("late x 0", NoTrip, {"name": "x"}),
            ("late a.b 1", NoTrip, {"name": "a.b"}),
            ("late a 0", BadNumber, {"value": 0}), ("late a 1000000001", BadNumber, {"value": LIMIT + 1}),
            ("late b 1000000000", BadNumber, {"value": LIMIT + 20}),
            ("late b 999999977", BadNumber, {"value": LIMIT + 1}),
            ("fail x", NoKey, {"name": "x"}), ("put a x x 0.00:00 0.00:00 0", Twice, {"name": "a"}),
            ("put a.b x x 0.00:00 0.00:00 0", BadName, {"name": "a.b"}),
            ("put e x y 0.00:00 0.00:00 0", NoPlace, {"name": "x"}),
            ("put e h y 0.00:00 0.00:00 0", NoPlace, {"name": "y"}),
            ("put e h h 0.00:00 0.00:00 1000000001", BadNumber, {"value": LIMIT + 1}),
            ("put e out h 0.00:00 0.00:00 0", Backward, {"name": "e"}),
            ("put e out h 0.00:00 0.00:01 0", NoWay, {"origin": "out", "goal": "h"}),
            ("put e h p 0.00:12 0.00:14 0", TooFast, {"name": "e"}),
            ("put e h p 0.00:12 0.00:15 0", Past, {"name": "e"}),
        ):
            self.assert_line_refused(kind, fields, desk, line)
        desk.run("tick 0.00:15")
        self.assert_line_refused(Done, {"name": "a"}, desk, "late a 1")
        desk.run("fail k")
        self.assert_line_refused(Failed, {"name": "k"}, desk, "fail k")
        desk.run("tick 694444.10:40")
        self.assert_line_refused(Back, {"value": LIMIT - 1}, desk, "tick 694444.10:39")

    def test_a_forty_first_trip(self):
        lines = ["place h", "home h", "car k 0 999"]
        lines += [f"trip t{number} h h {shown(10 * number + 1)} {shown(10 * number + 2)} 0" for number in range(39)]
        desk = told(lines + ["open 999"])
        desk.run("put e h h 0.09:00 0.09:01 0")
        self.assert_refused(TooMany, {"most": 40}, desk.run, "put f h h 0.09:00 0.09:01 0")
        self.assert_refused(TooMany, {"most": 40}, desk.run, "put a.b x x 0.00:00 0.00:00 0")

    def rows_of(self, day):
        return [" ".join(["row", key] + names) for key, names in day.rows().items()] + [
            " ".join(["left"] + day.left()), " ".join(["lost"] + day.lost()),
        ]

    def random_deed(self, source, day, places):
        name = source.choice(day.table().names() + ["x"])
        start = day.now() + source.randint(-1, 20)
        trip = (
            source.choice(["e1", "e2", "e3", "e4"]), source.choice(places + ["x"]), source.choice(places),
            max(0, start), max(0, start) + source.randint(0, 12), source.randint(0, 9),
        )
        minute, minutes = max(0, day.now() + source.randint(-1, 9)), source.randint(0, 20)
        key = source.choice(list(day.rows()) + ["x"])
        words = f"{trip[0]} {trip[1]} {trip[2]} {shown(trip[3])} {shown(trip[4])} {trip[5]}"
        return source.choice([
            (f"tick {shown(minute)}", lambda: day.tick(minute)),
            (f"late {name} {minutes}", lambda: day.late(name, minutes)),
            (f"fail {key}", lambda: day.fail(key)), (f"put {words}", lambda: day.put_in(trip)),
        ])

    def test_days_by_lines_and_by_calls(self):
        source = random.Random(97)
        seen = []
        for _ in range(300):
            office = Random(source, source.randint(0, 6))
            desk = told(office.lines)
            answer = outcome(desk.run, "open 30")
            self.assertEqual(isinstance(answer, list), isinstance(outcome(office.given, 30), list))
            if not isinstance(answer, list):
                self.assertEqual(answer, outcome(office.given, 30))
                continue
            rows = {line.split()[1]: line.split()[2:] for line in answer[:-2]}
            self.assertEqual(list(rows), [car[0] for car in office.cars])
            given = [names for names in rows.values() if names]
            self.assertTrue(giving_holds(
                office.office.table, office.home, given, office.cars, [key for key in rows if rows[key]],
            ))
            day = Day(office.office.table, CarJudge(office.home, office.cars), rows)
            self.assertEqual(answer, self.rows_of(day))
            for _ in range(8):
                line, deed = self.random_deed(source, day, office.office.places)
                refusal = outcome(deed)
                answer = outcome(desk.run, line)
                self.assertEqual(answer, refusal or self.rows_of(day))
                self.assertEqual(desk.run("rows"), self.rows_of(day))
                seen.append((line.split()[0], refusal is None))
        for word in ("tick", "late", "fail", "put"):
            self.assertGreater(min(seen.count((word, True)), seen.count((word, False))), 10)


class Kept(DeskCase):
    def test_answers_are_the_askers(self):
        desk = opened()
        for line in ("chains", "blocks 16", "rows", "length h p", "road h p", "give 16"):
            answer = desk.run(line)
            before = list(answer)
            answer.append("q")
            self.assertEqual(desk.run(line), before)
        answer = desk.run("rows")
        kept = list(answer)
        desk.run("fail k")
        desk.run("tick 0.01:00")
        self.assertEqual(answer, kept)

    def test_two_desks_know_nothing_of_each_other(self):
        one, other = Desk(), Desk()
        for line in OFFICE + ["home h"] + CARS + ["open 16", "fail k"]:
            before = view(other)
            one.run(line)
            self.assertEqual(view(other), before)
        self.assertEqual(other.run("chains"), ["cars 0", "apart"])
        self.assert_refused(NoDay, {}, other.run, "rows")
        other.run("place h")
        self.assertEqual(one.run("length h p"), ["length 3"])

    def test_asking_changes_nothing(self):
        desk = told(OFFICE + ["home h"] + CARS + ["driver ann h 0 0 99", "week k 1 4 1 1 1 1 1 1 1"])
        before = view(desk)
        for line in ASKS * 2:
            outcome(desk.run, line)
        self.assertEqual(view(desk), before)

    def test_what_is_set_up_stays_in_a_day(self):
        more = ["home h", "driver ann h 0 0 99", "driver bob h 0 0 99", "week k 1 4 1 1 1 1 1 1 1"]
        desk = told(OFFICE + CARS + more)
        lines = ["chains", "blocks 16", "give 16", "duties 16", "drive 16", "care 1"]
        before = [desk.run(line) for line in lines]
        for deed in ("open 16", "put e h h 0.05:00 0.06:00 0", "late b 30", "fail k", "tick 0.10:00"):
            desk.run(deed)
            self.assertEqual([desk.run(line) for line in lines], before)

    def test_refusals_are_fleet_errors(self):
        for line in ("", "rows", "home x", "blocks 1", "way a b x"):
            with self.assertRaises(FleetError):
                Desk().run(line)
