import copy
import random

from fleetpath import drivers as module
from fleetpath.blocks import Unlinked
from fleetpath.drivers import check_drivers, driver_fits, fit_drivers, give_drivers
from fleetpath.errors import LIMIT, BadName, BadNumber, NoPlace, NoTrip, TooMany, Twice
from fleetpath.giving import TooFew
from fleetpath.hours import AllOf, Pause, Rule, Shift, Span, Work
from fleetpath.roads import Roads
from fleetpath.trips import Table
from tests.helper import (
    Case, can_be_dealt, drivers_refusal, outcome, plain_may, random_names, random_office, some_rules,
)

PLACES = ["h", "p", "out", "in"]
WAYS = [("h", "p", 3), ("p", "h", 4), ("h", "out", 1), ("in", "h", 1)]
TRIPS = [
    ("a", "p", "p", 10, 15, 0), ("b", "p", "p", 20, 24, 0), ("c", "h", "h", 40, 41, 0),
    ("o", "out", "out", 50, 51, 0), ("i", "in", "in", 60, 61, 0), ("e", "p", "p", 1, 2, 0),
]
TABLE = Table(Roads(PLACES, WAYS), TRIPS)
BOUNDS = (-1, LIMIT + 1, -(10 ** 299), 10 ** 299)


def driver(name="ann", home="h", ended=-LIMIT, rest=0, last=LIMIT):
    return (name, home, ended, rest, last)


def forty(count=40):
    return [driver(f"d{number}") for number in range(count)]


class Drivers(Case):
    def test_no_classes_of_its_own(self):
        self.assert_error_classes(module, {})

    def test_let_by(self):
        for drivers in (
            [], [driver()], [driver(home="moon")], [driver(home="A b\n")], forty(),
            [driver(ended=-LIMIT), driver("bob", ended=LIMIT)], [driver(rest=LIMIT, last=0)],
        ):
            self.assertIsNone(check_drivers(drivers))

    def test_forty_one(self):
        self.assert_refused(TooMany, {"most": 40}, check_drivers, forty(41))
        self.assert_refused(TooMany, {"most": 40}, check_drivers, [driver("", "x", LIMIT + 1, -1, -1)] + forty())

    def test_each_refusal(self):
        for name in ("", "x" * 13, "A", "a b", "a\n"):
            self.assert_refused(BadName, {"name": name}, check_drivers, [driver(), driver(name)])
        self.assert_refused(Twice, {"name": "ann"}, check_drivers, [driver(), driver("bob"), driver()])
        for value in (-LIMIT - 1, LIMIT + 1, -(10 ** 299), 10 ** 299):
            self.assert_refused(BadNumber, {"value": value}, check_drivers, [driver(), driver("bob", ended=value)])
        for value in BOUNDS:
            self.assert_refused(BadNumber, {"value": value}, check_drivers, [driver(), driver("bob", rest=value)])
            self.assert_refused(BadNumber, {"value": value}, check_drivers, [driver(), driver("bob", last=value)])

    def test_several_at_once(self):
        far = LIMIT + 7
        self.assert_refused(BadName, {"name": "A"}, check_drivers, [driver("A", "x", far, -1, -2)])
        self.assert_refused(BadName, {"name": "A"}, check_drivers, [driver(), driver("A"), driver()])
        self.assert_refused(Twice, {"name": "ann"}, check_drivers, [driver(), driver("ann", "x", far, -1, -2)])
        self.assert_refused(BadNumber, {"value": far}, check_drivers, [driver("ann", "x", far, -1, -2)])
        self.assert_refused(BadNumber, {"value": -1}, check_drivers, [driver("ann", "x", 0, -1, -2)])
        self.assert_refused(BadNumber, {"value": -2}, check_drivers, [driver("ann", "x", 0, 0, -2), driver("A")])
        self.assert_refused(BadNumber, {"value": far}, check_drivers, [driver(ended=far), driver()])
        self.assert_refused(Twice, {"name": "ann"}, check_drivers, [driver(), driver(), driver("A")])


class One(Case):
    """One driver and one duty; the sheet of a b from h begins at 7 and ends at 28."""

    def assert_may(self, expected, rule, asked, names):
        self.assertIs(driver_fits(TABLE, rule, asked, names), expected)

    def test_ended_and_rest_at_the_edge(self):
        for ended, rest, may in (
            (7, 0, True), (8, 0, False), (6, 0, True), (0, 7, True), (0, 8, False), (0, 6, True), (7, 1, False),
            (-100, 107, True), (-100, 108, False), (-LIMIT, LIMIT, True), (LIMIT, LIMIT, False),
        ):
            self.assert_may(may, Rule(), driver(ended=ended, rest=rest), ["a", "b"])

    def test_a_sheet_that_begins_below_nought(self):
        for ended, rest, may in ((-2, 0, True), (-1, 0, False), (-3, 1, True), (-3, 2, False), (0, 0, False)):
            self.assert_may(may, Rule(), driver(ended=ended, rest=rest), ["e"])

    def test_last_at_the_edge(self):
        for last, may in ((28, True), (27, False), (29, True), (0, False), (LIMIT, True)):
            self.assert_may(may, Rule(), driver(last=last), ["a", "b"])

    def test_the_rule_at_the_edge(self):
        for may, rules in (
            (True, [Span(21), Work(16), Pause(9, 6), Pause(5, 5), Shift(7, 28)]),
            (True, [AllOf([]), AllOf([Span(21), Work(16)])]),
            (False, [Span(20), Work(15), Pause(8, 6), Pause(4, 5), Shift(8, 28), Shift(7, 27)]),
            (False, [AllOf([Span(21), Work(15)]), AllOf([Span(20)])]),
        ):
            for rule in rules:
                self.assert_may(may, rule, driver(), ["a", "b"])

    def test_from_the_drivers_own_home(self):
        for home, first, last in (("h", 7, 28), ("p", 10, 24)):
            self.assert_may(True, Rule(), driver(home=home, ended=first, last=last), ["a", "b"])
            self.assert_may(False, Rule(), driver(home=home, ended=first + 1, last=last), ["a", "b"])
            self.assert_may(False, Rule(), driver(home=home, ended=first, last=last - 1), ["a", "b"])

    def test_no_way(self):
        self.assert_may(False, Rule(), driver(), ["i"])
        self.assert_may(False, Rule(), driver(), ["o"])
        self.assert_may(False, Rule(), driver(home="out"), ["a"])
        self.assert_may(False, Rule(), driver(home="in"), ["a"])
        self.assert_may(True, Rule(), driver(home="out"), ["o"])

    def test_the_duty_without_trips(self):
        for rule in (Rule(), Span(-1), Work(-1), Pause(-1, 1), Shift(1, 0), AllOf([Span(-1)])):
            for asked in (driver(), driver(ended=LIMIT, rest=LIMIT, last=0), driver(home="out")):
                self.assert_may(True, rule, asked, [])

    def test_refused(self):
        for names in ([], ["a"], ["x"]):
            self.assert_refused(NoPlace, {"name": "moon"}, driver_fits, TABLE, Span(-1), driver(home="moon"), names)
        for name in ("x", "", "A b\n"):
            asked = driver(ended=LIMIT)
            self.assert_refused(NoTrip, {"name": name}, driver_fits, TABLE, Span(-1), asked, ["a", name, "y"])
            self.assert_refused(NoTrip, {"name": name}, driver_fits, TABLE, Rule(), asked, ["i", name])
            self.assert_refused(NoTrip, {"name": name}, driver_fits, TABLE, Rule(), asked, ["b", "a", name])


def plain_refusal(office, duties, drivers):
    refusal = drivers_refusal(drivers)
    if refusal:
        return refusal
    for asked in drivers:
        if asked[1] not in office.places:
            return (NoPlace, {"name": asked[1]})
    if len(duties) > 40:
        return (TooMany, {"most": 40})
    for names in duties:
        refusal = office.linked_refusal(names)
        if refusal:
            return refusal
    return None


class Many(Case):
    def test_the_drivers_order(self):
        drivers = [driver("z"), driver("b", last=27), driver("10"), driver("a", home="out"), driver("m", "p")]
        told = fit_drivers(TABLE, Rule(), [["a", "b"], ["c"], [], ["o"]], drivers)
        self.assertEqual(told, [["z", "10", "m"], ["z", "10", "m"], ["z", "b", "10", "a", "m"], ["a"]])

    def test_none(self):
        self.assertEqual(fit_drivers(TABLE, Rule(), [], [driver()]), [])
        self.assertEqual(fit_drivers(TABLE, Rule(), [["a"], []], []), [[], []])
        self.assertEqual(give_drivers(TABLE, Rule(), [], []), [])

    def test_more_trips_than_a_lawful_duty_has(self):
        trips = [(f"t{number}", "h", "h", 2 * number, 2 * number + 1, 0) for number in range(8)]
        table = Table(Roads(["h"], []), trips)
        self.assertEqual(fit_drivers(table, Rule(), [table.names()], [driver()]), [["ann"]])

    def test_known_givings(self):
        drivers = [driver("x"), driver("y", last=28), driver("z", ended=LIMIT)]
        self.assertEqual(give_drivers(TABLE, Rule(), [["a", "b"], ["c"]], drivers), ["y", "x"])
        self.assertEqual(give_drivers(TABLE, Rule(), [["c"], [], ["a"]], drivers), ["x", "z", "y"])

    def test_too_few(self):
        drivers = [driver("x"), driver("y", last=28)]
        self.assert_refused(TooFew, {"lefts": [1], "rights": []}, give_drivers, TABLE, Rule(), [["a"], ["i"]], drivers)
        self.assert_refused(TooFew, {"lefts": [0], "rights": []}, give_drivers, TABLE, Rule(), [[]], [])
        with self.assertRaises(TooFew) as caught:
            give_drivers(TABLE, Rule(), [["a"], ["c"], ["b"]], drivers)
        error = caught.exception
        self.assertEqual((sorted(error.lefts), sorted(error.rights)), ([0, 1, 2], ["x", "y"]))

    def test_forty_drivers_and_forty_duties(self):
        told = give_drivers(TABLE, Rule(), [["a", "b"]] * 40, forty())
        self.assertEqual(sorted(told), sorted(name for name, _, _, _, _ in forty()))


class Refusals(Case):
    def refused(self, kind, fields, duties, drivers):
        for ask in (fit_drivers, give_drivers):
            for rule in (Rule(), Span(-1)):
                self.assert_refused(kind, fields, ask, TABLE, rule, duties, drivers)

    def test_drivers_first(self):
        moon = driver("zoe", "moon")
        for drivers, kind, fields in (
            (forty(41), TooMany, {"most": 40}),
            ([moon, driver("A")], BadName, {"name": "A"}),
            ([moon, driver(), driver()], Twice, {"name": "ann"}),
            ([moon, driver(ended=LIMIT + 1)], BadNumber, {"value": LIMIT + 1}),
            ([moon, driver(rest=-1)], BadNumber, {"value": -1}),
            ([moon, driver(last=-2)], BadNumber, {"value": -2}),
        ):
            for duties in ([], [["x"]], [[]] * 41):
                self.refused(kind, fields, duties, drivers)

    def test_then_their_homes(self):
        for duties in ([], [["x"]], [[]] * 41):
            self.refused(NoPlace, {"name": "moon"}, duties, [driver(), driver("bob", "moon"), driver("cid", "sun")])

    def test_then_too_many_duties(self):
        self.refused(TooMany, {"most": 40}, [[]] * 41, [driver()])
        self.refused(TooMany, {"most": 40}, [["x"], ["b", "a"]] * 21, [])
        self.assertEqual(fit_drivers(TABLE, Rule(), [[]] * 40, [driver()]), [["ann"]] * 40)

    def test_then_duty_by_duty(self):
        unlinked = {"first": "b", "second": "a"}
        for drivers in ([], [driver()]):
            self.refused(NoTrip, {"name": "x"}, [["a"], ["x", "y"], ["b", "a"]], drivers)
            self.refused(NoTrip, {"name": "x"}, [["b", "a", "x"], ["b", "a"]], drivers)
            self.refused(Unlinked, unlinked, [["a"], ["b", "a", "a"], ["x"]], drivers)
            self.refused(Unlinked, {"first": "a", "second": "a"}, [["a", "a"]], drivers)
            self.refused(Unlinked, unlinked, [["i"], ["b", "a"]], drivers)

    def test_against_a_plain_search(self):
        source = random.Random(68)
        seen = []
        for _ in range(700):
            office = random_office(source, most_ways=14, count=4, latest=30)
            rows = office.rows()
            duties = [source.choice(rows) for _ in range(source.randint(0, 3))]
            if source.random() < 0.15:
                duties.append(random_names(source, office))
            drivers = self.some_drivers(source, office)
            for rule in source.sample(some_rules(source), 2):
                before = copy.deepcopy((duties, drivers))
                seen.append(self.assert_as_plain(office, rule, duties, drivers))
                self.assertEqual((duties, drivers), before)
        for kind in ("refused", "given", "too few"):
            self.assertGreater(seen.count(kind), 100)

    def some_drivers(self, source, office):
        names = source.sample(["a", "b", "c", "d"], source.randint(0, 4))
        if source.random() < 0.1:
            names.append(source.choice(["A", "a"]))
        places = office.places * 10 + ["moon"]
        return [
            (name, source.choice(places), source.randint(-20, 3), source.randint(-(source.random() < 0.05), 20),
             source.randint(20, 60))
            for name in names
        ]

    def assert_as_plain(self, office, rule, duties, drivers):
        refusal = plain_refusal(office, duties, drivers)
        if refusal:
            self.assertEqual(outcome(fit_drivers, office.table, rule, duties, drivers), refusal)
            self.assertEqual(outcome(give_drivers, office.table, rule, duties, drivers), refusal)
            return "refused"
        fit = [[asked[0] for asked in drivers if plain_may(office, rule, asked, names)] for names in duties]
        for names, fitting in zip(duties, fit):
            for asked in drivers:
                self.assertIs(driver_fits(office.table, rule, asked, names), asked[0] in fitting)
        self.assertEqual(fit_drivers(office.table, rule, duties, drivers), fit)
        rows = dict(enumerate(fit))
        if can_be_dealt(rows):
            told = give_drivers(office.table, rule, duties, drivers)
            self.assertEqual((type(told), len(told), len(set(told))), (list, len(duties), len(duties)))
            for name, fitting in zip(told, fit):
                self.assertIn(name, fitting)
            return "given"
        with self.assertRaises(TooFew) as caught:
            give_drivers(office.table, rule, duties, drivers)
        self.assert_too_few(rows, caught.exception)
        return "too few"


class Kept(Case):
    def test_changing_what_was_handed_in_or_told(self):
        duties, drivers, rules = [["a", "b"], [], []], [driver("x"), driver("y"), driver("z")], [Span(21)]
        rule = AllOf(rules)
        told = fit_drivers(TABLE, rule, duties, drivers)
        told[1].append("q")
        self.assertEqual(told[2], ["x", "y", "z"])
        rules.append(Span(-1))
        drivers.append(driver("w"))
        duties[0].pop()
        self.assertEqual(told, [["x", "y", "z"], ["x", "y", "z", "q"], ["x", "y", "z"]])
        self.assertEqual(fit_drivers(TABLE, rule, duties, drivers), [["x", "y", "z", "w"]] * 3)
        give_drivers(TABLE, rule, duties, drivers).clear()
        self.assertEqual(len(set(give_drivers(TABLE, rule, duties, drivers))), 3)
        self.assertEqual(duties, [["a"], [], []])
        self.assertEqual([asked[0] for asked in drivers], ["x", "y", "z", "w"])

    def test_asking_in_another_order(self):
        duties, drivers = [["c"], ["a", "b"]], [driver("x"), driver("y", last=28)]
        for _ in range(2):
            self.assertEqual(give_drivers(TABLE, Rule(), duties, drivers), ["x", "y"])
            self.assertEqual(fit_drivers(TABLE, Rule(), duties, drivers), [["x"], ["x", "y"]])
            self.assertIs(driver_fits(TABLE, Rule(), drivers[1], duties[0]), False)
            self.assert_refused(NoTrip, {"name": "q"}, driver_fits, TABLE, Rule(), drivers[0], ["q"])
