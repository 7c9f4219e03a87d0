import copy
import inspect
import itertools
import random

from fleetpath import hours
from fleetpath.blocks import Unlinked
from fleetpath.errors import LIMIT, NoPlace, NoTrip, NoWay
from fleetpath.hours import AllOf, Pause, Rule, Shift, Span, Work, broken, sheet
from fleetpath.roads import Roads
from fleetpath.trips import Table
from tests.helper import Case, outcome, plain_fits, plain_sheet, random_names, random_office, some_rules

PLACES = ["h", "p", "q"]
WAYS = [("h", "p", 3), ("p", "h", 4), ("p", "q", 5), ("q", "p", 6)]
TRIPS = [
    ("a", "p", "q", 10, 15, 0), ("b", "p", "p", 21, 24, 0), ("c", "p", "p", 24, 26, 0), ("d", "p", "p", 31, 34, 0),
    ("e", "h", "h", 50, 51, 0), ("z", "p", "p", 1, 2, 0),
]
TABLE = Table(Roads(PLACES, WAYS), TRIPS)

# Trips of 3, 2 and 4 minutes, waits of 5 and 4 minutes between.
WORKED = [("way", 10, 12), ("trip", 12, 15), ("wait", 15, 20), ("trip", 20, 22), ("wait", 22, 26), ("trip", 26, 30)]
# A way and a wait between the trips.
LONG = [("trip", 0, 4), ("way", 4, 14), ("wait", 14, 16), ("trip", 16, 20), ("way", 20, 23)]
BELOW = [("way", -9, -4), ("trip", -4, 6)]


class Sheets(Case):
    def test_known_sheets(self):
        for home, names, told in (
            ("h", [], []),
            ("h", ["a"], [("way", 7, 10), ("trip", 10, 15), ("way", 15, 25)]),
            ("p", ["b"], [("trip", 21, 24)]),
            ("h", ["a", "b"], [("way", 7, 10), ("trip", 10, 15), ("way", 15, 21), ("trip", 21, 24), ("way", 24, 28)]),
            ("p", ["b", "c", "d"], [("trip", 21, 24), ("trip", 24, 26), ("wait", 26, 31), ("trip", 31, 34)]),
            ("h", ["e"], [("trip", 50, 51)]),
            ("p", ["a", "d"], [("trip", 10, 15), ("way", 15, 21), ("wait", 21, 31), ("trip", 31, 34)]),
            ("h", ["d", "e"], [
                ("way", 28, 31), ("trip", 31, 34), ("way", 34, 38), ("wait", 38, 50), ("trip", 50, 51),
            ]),
        ):
            self.assertEqual(sheet(TABLE, home, names), told)

    def test_a_beginning_below_nought(self):
        self.assertEqual(sheet(TABLE, "h", ["z"]), [("way", -2, 1), ("trip", 1, 2), ("way", 2, 6)])

    def test_beyond_the_limit_of_counts(self):
        table = Table(Roads(["h", "p"], [("h", "p", LIMIT), ("p", "h", LIMIT)]), [("t", "p", "p", 1, LIMIT, 0)])
        told = [("way", 1 - LIMIT, 1), ("trip", 1, LIMIT), ("way", LIMIT, 2 * LIMIT)]
        self.assertEqual(sheet(table, "h", ["t"]), told)

    def test_refused(self):
        self.assert_refused(NoPlace, {"name": "x"}, sheet, TABLE, "x", [])
        self.assert_refused(NoPlace, {"name": "x"}, sheet, TABLE, "x", ["y"])
        self.assert_refused(NoTrip, {"name": "y"}, sheet, TABLE, "h", ["b", "a", "y"])
        self.assert_refused(Unlinked, {"first": "b", "second": "a"}, sheet, TABLE, "h", ["b", "a"])
        self.assert_refused(Unlinked, {"first": "a", "second": "a"}, sheet, TABLE, "h", ["a", "a"])
        lame = Table(Roads(["h", "p"], [("h", "p", 1)]), [("t", "h", "p", 0, 5, 0), ("u", "p", "p", 6, 7, 0)])
        self.assert_refused(NoWay, {"origin": "p", "goal": "h"}, sheet, lame, "h", ["t", "u"])
        self.assert_refused(NoWay, {"origin": "p", "goal": "h"}, sheet, lame, "p", ["t", "u"])
        self.assertEqual(sheet(lame, "p", ["u"]), [("trip", 6, 7)])

    def test_against_minutes_one_by_one(self):
        source = random.Random(50)
        told = 0
        for _ in range(300):
            office = random_office(source, most_ways=12)
            for _ in range(8):
                home, names = source.choice(office.places * 3 + ["moon"]), random_names(source, office)
                expected = office.block_refusal(home, names)
                if expected is None:
                    expected = plain_sheet(office, home, names)
                    told += 1
                before = list(names)
                self.assertEqual(outcome(sheet, office.table, home, names), expected)
                self.assertEqual(names, before)
        self.assertGreater(told, 1000)

    def test_told_is_the_askers_own(self):
        names = ["a", "b"]
        earlier = sheet(TABLE, "h", names)
        sheet(TABLE, "h", names).clear()
        sheet(TABLE, "h", []).append(1)
        names.append("d")
        self.assertEqual(sheet(TABLE, "h", ["a", "b"]), earlier)
        self.assertEqual(len(earlier), 5)
        self.assertEqual(sheet(TABLE, "h", []), [])


class Kinds(Case):
    def test_classes(self):
        defined = [name for name, kind in vars(hours).items() if inspect.isclass(kind)]
        self.assertEqual(sorted(defined), sorted(["Rule", "Span", "Work", "Pause", "Shift", "AllOf"]))
        for kind in (Span, Work, Pause, Shift, AllOf):
            self.assertEqual(kind.__bases__, (Rule,))
        self.assertEqual(Rule.__bases__, (object,))

    def test_words(self):
        rules = [Rule(), Span(1), Work(1), Pause(1, 1), Shift(1, 1), AllOf([]), AllOf([Span(1)])]
        self.assertEqual([rule.word() for rule in rules], ["rule", "span", "work", "pause", "shift", "all", "all"])

    def test_the_sheet_without_parts_fits_every_rule(self):
        for least in (-(10 ** 299), -1, 0, 1):
            for rule in (Rule(), Span(least), Work(least), Pause(least, 1), Shift(least, least), Shift(1, 0)):
                self.assertIs(rule.fits([]), True)
                self.assertIs(AllOf([rule]).fits([]), True)
                self.assertIs(AllOf([rule] * 8).fits([]), True)
        self.assertIs(AllOf([]).fits([]), True)

    def test_the_plain_rule(self):
        for rows in (WORKED, LONG, BELOW, []):
            self.assertIs(Rule().fits(rows), True)


class Edges(Case):
    def assert_edge(self, made, least, rows):
        """Let by from least on, and not below it."""
        for most, fit in ((least - 1, False), (least, True), (least + 1, True), (-1, False), (-(10 ** 299), False)):
            self.assertIs(made(most).fits(rows), fit)
        self.assertIs(made(10 ** 299).fits(rows), True)

    def test_span(self):
        self.assert_edge(Span, 20, WORKED)
        self.assert_edge(Span, 23, LONG)
        self.assert_edge(Span, 15, BELOW)
        self.assert_edge(Span, 1, [("trip", 7, 8)])

    def test_work(self):
        self.assert_edge(Work, 11, WORKED)
        self.assert_edge(Work, 21, LONG)
        self.assert_edge(Work, 15, BELOW)
        self.assert_edge(Work, 1, [("trip", 7, 8)])

    def test_pause(self):
        for least, most in ((1, 4), (3, 4), (4, 4), (5, 6), (6, 9), (100, 9)):
            self.assert_edge(lambda number: Pause(number, least), most, WORKED)
        for least, most in ((1, 4), (2, 4), (3, 8)):
            self.assert_edge(lambda number: Pause(number, least), most, LONG)
        self.assert_edge(lambda number: Pause(number, 1), 10, BELOW)

    def test_each_stretch_of_a_pause(self):
        for first, second, third in itertools.permutations((2, 3, 9)):
            rows = [
                ("trip", 0, first), ("wait", first, 20), ("trip", 20, 20 + second), ("wait", 20 + second, 40),
                ("trip", 40, 40 + third),
            ]
            self.assert_edge(lambda number: Pause(number, 1), 9, rows)
            self.assert_edge(lambda number: Pause(number, 100), 14, rows)

    def test_ways_and_short_waits_part_nothing(self):
        rows = [("way", 0, 50), ("trip", 50, 53), ("way", 53, 99), ("wait", 99, 102), ("trip", 102, 107)]
        self.assert_edge(lambda number: Pause(number, 4), 8, rows)
        self.assert_edge(lambda number: Pause(number, 3), 5, rows)

    def test_shift(self):
        for rows in (WORKED, LONG, BELOW):
            begin, end = rows[0][1], rows[-1][2]
            for first, last, fit in (
                (begin, end, True), (begin + 1, end, False), (begin, end - 1, False), (begin - 1, end + 1, True),
                (begin + 1, end - 1, False), (begin - 1, end - 1, False), (begin + 1, end + 1, False),
                (-(10 ** 299), 10 ** 299, True), (10 ** 299, -(10 ** 299), False),
            ):
                self.assertIs(Shift(first, last).fits(rows), fit)
        self.assertIs(Shift(-9, 6).fits(BELOW), True)
        self.assertIs(Shift(-8, 6).fits(BELOW), False)

    def test_all_of(self):
        self.assertIs(AllOf([]).fits(WORKED), True)
        for fit, rules in (
            (True, [Span(20)]), (False, [Span(19)]), (True, [Rule()]), (True, [Span(20), Work(11)]),
            (False, [Span(20), Work(10)]), (False, [Span(19), Work(11)]), (True, [Span(20)] * 8),
            (False, [Span(20)] * 7 + [Pause(1, 1)]), (False, [Shift(11, 99)] + [Rule()] * 7),
        ):
            self.assertIs(AllOf(rules).fits(WORKED), fit)


class AgainstMinutes(Case):
    def test_rules_of_many_sheets(self):
        source = random.Random(51)
        seen = {}
        for _ in range(200):
            office = random_office(source, most_ways=14, latest=30)
            for names in office.rows():
                for home in office.places:
                    if office.block_refusal(home, names) is None:
                        self.assert_as_plain(source, sheet(office.table, home, names), seen)
        for word in ("span", "work", "pause", "shift", "all"):
            for fit in (True, False):
                self.assertGreater(seen[word, fit], 100)

    def assert_as_plain(self, source, rows, seen):
        before = list(rows)
        for rule in some_rules(source):
            told = rule.fits(rows)
            self.assertIs(told, plain_fits(rule, rows))
            seen[rule.word(), told] = seen.get((rule.word(), told), 0) + 1
        self.assertEqual(rows, before)


class Broken(Case):
    def test_in_the_lists_order_doubles_too(self):
        rules = [Work(10), Span(20), Span(19), Rule(), Span(18), Shift(11, 30), Pause(1, 1), AllOf([Work(10), Work(9)])]
        self.assertEqual(broken(rules, WORKED), ["work", "span", "span", "shift", "pause", "all"])
        self.assertEqual(broken(list(reversed(rules)), WORKED), ["all", "pause", "shift", "span", "span", "work"])

    def test_none(self):
        self.assertEqual(broken([], WORKED), [])
        self.assertEqual(broken([Rule(), Span(20), AllOf([])], WORKED), [])
        self.assertEqual(broken([Span(-1), Work(-1), Pause(-1, 1), Shift(1, 0), AllOf([Span(-1)])], []), [])

    def test_more_than_eight_rules(self):
        self.assertEqual(broken([Span(1)] * 12, WORKED), ["span"] * 12)


class Kept(Case):
    def test_the_list_of_rules_may_change_behind_the_call(self):
        rules = [Span(20)]
        made = AllOf(rules)
        rules.append(Span(1))
        self.assertIs(made.fits(WORKED), True)
        rules.clear()
        self.assertIs(AllOf([Span(19)]).fits(WORKED), False)
        self.assertIs(made.fits(WORKED), True)
        others = [Span(1)]
        strict = AllOf(others)
        others.clear()
        self.assertIs(strict.fits(WORKED), False)

    def test_asking_changes_nothing(self):
        rows, rules = copy.deepcopy(WORKED), [Pause(3, 4), Pause(4, 4), AllOf([Pause(3, 4)]), Work(11), Span(19)]
        for _ in range(3):
            self.assertEqual(broken(rules, rows), ["pause", "all", "span"])
            self.assertEqual([rule.fits(rows) for rule in rules], [False, True, False, True, False])
            self.assertEqual([rule.fits([]) for rule in rules], [True] * 5)
            broken(rules, rows).clear()
        self.assertEqual((rows, len(rules)), (WORKED, 5))
