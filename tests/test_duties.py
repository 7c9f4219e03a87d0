import itertools
import random

from fleetpath import duties
from fleetpath.duties import DEEP, MOST_DUTIES, Unlawful, lawful
from fleetpath.errors import NoPlace, NoWay, TooMany
from fleetpath.hours import AllOf, Pause, Rule, Shift, Span, Work, sheet
from fleetpath.roads import Roads
from fleetpath.trips import Table
from tests.helper import Case, groups, lawful_refusal, outcome, plain_lawful, random_office, some_rules, subsets


class Errors(Case):
    def test_classes_and_bounds(self):
        self.assert_error_classes(duties, {"Unlawful": ["name"]})
        self.assertEqual((DEEP, MOST_DUTIES), (5, 400))


class Lawful(Case):
    def assert_as_a_plain_search(self, office, home, rule):
        refusal = lawful_refusal(office, home, rule)
        if refusal:
            self.assertEqual(outcome(lawful, office.table, home, rule), refusal)
            return "refused"
        told = lawful(office.table, home, rule)
        self.assertIs(type(told), list)
        for names in told:
            self.assertIs(type(names), list)
        self.assertEqual(sorted(told), sorted(plain_lawful(office, home, rule)))
        return "told"

    def test_small_tables(self):
        source = random.Random(56)
        seen = []
        for _ in range(250):
            office = random_office(source, most_ways=14, count=source.randint(0, 6), latest=40)
            home = source.choice(office.places * 5 + ["moon"])
            for rule in some_rules(source):
                seen.append(self.assert_as_a_plain_search(office, home, rule))
        self.assertGreater(seen.count("told"), 200)
        self.assertGreater(seen.count("refused"), 200)

    def test_rules_that_let_each_trip_by(self):
        source = random.Random(57)
        for _ in range(150):
            office = random_office(source, most_places=2, most_ways=8, count=7, latest=45)
            home = source.choice(office.places)
            pause = Pause(9, source.randint(1, 12))
            for rule in (Span(30), Work(20), pause, Shift(-9, 45), AllOf([Span(32), Work(22), pause])):
                self.assert_as_a_plain_search(office, home, rule)

    def test_no_trips(self):
        table = Table(Roads(["h"], []), [])
        self.assertEqual(lawful(table, "h", Rule()), [])
        self.assertEqual(lawful(table, "h", Span(-1)), [])
        self.assert_refused(NoPlace, {"name": "x"}, lawful, table, "x", Rule())

    def test_one_to_five_trips(self):
        told = lawful(groups(7), "h", Rule())
        names = [f"t0x{number}" for number in range(7)]
        self.assertEqual(sorted(told), sorted(list(row) for row in subsets(names) if 1 <= len(row) <= 5))
        self.assertEqual({len(row) for row in told}, {1, 2, 3, 4, 5})

    def test_links_at_the_edge(self):
        for start, linked in ((9, False), (10, True), (11, True)):
            trips = [("a", "h", "h", 0, 10, 0), ("b", "h", "h", start, 30, 0)]
            told = lawful(Table(Roads(["h"], []), trips), "h", Rule())
            self.assertEqual(sorted(told), [["a"], ["a", "b"], ["b"]] if linked else [["a"], ["b"]])

    def test_rules_at_the_edge(self):
        table = Table(Roads(["h"], []), [("a", "h", "h", 0, 10, 0), ("b", "h", "h", 20, 30, 0)])
        for let_by, rules in (
            (False, [Span(29), Work(19), Pause(19, 11)]),
            (True, [Span(30), Work(20), Pause(20, 11), Pause(10, 10), Shift(0, 30)]),
        ):
            for rule in rules:
                self.assertEqual(["a", "b"] in lawful(table, "h", rule), let_by)
        self.assert_refused(Unlawful, {"name": "b"}, lawful, table, "h", Shift(0, 29))
        self.assert_refused(Unlawful, {"name": "a"}, lawful, table, "h", Shift(1, 30))


class Refusals(Case):
    LAME = Roads(["h", "out", "in"], [("h", "out", 2), ("in", "h", 3)])

    def test_a_home_that_is_no_place(self):
        table = Table(self.LAME, [("i", "in", "in", 10, 11, 0)])
        self.assert_refused(NoPlace, {"name": "x"}, lawful, table, "x", Span(-1))

    def test_each_alone(self):
        there, back = {"origin": "h", "goal": "in"}, {"origin": "out", "goal": "h"}
        self.assert_refused(NoWay, there, lawful, Table(self.LAME, [("i", "in", "in", 10, 11, 0)]), "h", Rule())
        self.assert_refused(NoWay, back, lawful, Table(self.LAME, [("o", "out", "out", 10, 11, 0)]), "h", Rule())
        table = Table(self.LAME, [("t", "h", "h", 10, 11, 0)])
        for rule in (Span(0), Work(0), Pause(0, 1), Shift(11, 20), Shift(0, 10), AllOf([Rule(), Span(0)])):
            self.assert_refused(Unlawful, {"name": "t"}, lawful, table, "h", rule)

    def test_several_at_one_trip(self):
        there, back = {"origin": "h", "goal": "in"}, {"origin": "out", "goal": "h"}
        table = Table(self.LAME, [("io", "in", "out", 10, 21, 0)])
        self.assert_refused(NoWay, there, lawful, table, "h", Span(0))
        table = Table(self.LAME, [("o", "out", "out", 10, 11, 0)])
        self.assert_refused(NoWay, back, lawful, table, "h", Span(0))

    def test_trip_by_trip_in_the_tables_order(self):
        lame = ("i", "in", "in", 10, 11, 0)
        long = ("l", "h", "h", 5, 50, 0)
        other = ("k", "h", "h", 5, 51, 0)
        there = {"origin": "h", "goal": "in"}
        for trips in itertools.permutations([lame, long, other]):
            table = Table(self.LAME, list(trips))
            self.assert_refused(Unlawful, {"name": "l"}, lawful, table, "h", Span(40))
            self.assert_refused(Unlawful, {"name": "k"}, lawful, table, "h", Span(45))
            self.assert_refused(NoWay, there, lawful, table, "h", Span(46))

    def test_too_many_last(self):
        table = groups(40)
        self.assert_refused(TooMany, {"most": 400}, lawful, table, "h", Rule())
        self.assert_refused(NoPlace, {"name": "x"}, lawful, table, "x", Rule())
        self.assert_refused(Unlawful, {"name": "t0x0"}, lawful, table, "h", Span(2000))
        self.assert_refused(Unlawful, {"name": "t0x39"}, lawful, table, "h", Shift(0, 6078))

    def test_four_hundred_and_more(self):
        # Nine trips that are all linked have 381 duties, four have 15, two have 3, one has 1.
        for counts, many in (((9,), 381), ((9, 4, 2, 1), 400), ((9, 4, 2), 399)):
            told = lawful(groups(*counts), "h", Rule())
            self.assertEqual(len(told), many)
            self.assertEqual(len({tuple(row) for row in told}), many)
        for counts in ((9, 4, 2, 1, 1), (9, 4, 3), (10,), (4, 2, 1, 1, 9), (1, 1, 1, 1, 1, 1, 1, 1, 1, 1, 10)):
            self.assert_refused(TooMany, {"most": 400}, lawful, groups(*counts), "h", Rule())

    def test_a_rule_keeps_them_few(self):
        table = groups(40)
        self.assertEqual(len(lawful(table, "h", Span(2001))), 40)
        self.assertEqual(len(lawful(table, "h", Work(2001))), 40)
        self.assertEqual(len(lawful(table, "h", Span(2003))), 40 + 39)
        self.assertEqual(len(lawful(table, "h", Span(2005))), 40 + 39 + 38 + 38)


class LeavingOut(Case):
    def test_what_is_left_is_lawful(self):
        source = random.Random(58)
        seen = {}
        for _ in range(200):
            office = random_office(source, most_places=3, most_ways=12, count=6, latest=45)
            home = source.choice(office.places)
            for rule in some_rules(source) + [Pause(source.randint(4, 10), source.randint(1, 12))]:
                told = outcome(lawful, office.table, home, rule)
                if type(told) is list:
                    self.assert_left(told)
                    seen[rule.word()] = seen.get(rule.word(), 0) + len([row for row in told if len(row) > 1])
        for word in ("rule", "span", "work", "pause", "shift", "all"):
            self.assertGreater(seen[word], 50, word)

    def assert_left(self, told):
        known = {tuple(row) for row in told}
        for row in told:
            for left in subsets(row):
                self.assertTrue(left == () or left in known)

    def test_sheets_of_what_is_left_fit(self):
        """Also without asking for all duties: each sheet that fits goes on to fit when trips are left out."""
        source = random.Random(59)
        for _ in range(150):
            office = random_office(source, most_places=3, most_ways=14, count=5, latest=45)
            home = source.choice(office.places)
            rules = some_rules(source)
            for row in office.rows():
                if all(office.block_refusal(home, [name]) is None for name in row):
                    for left in subsets(row):
                        for rule in rules:
                            if rule.fits(sheet(office.table, home, row)):
                                self.assertTrue(rule.fits(sheet(office.table, home, list(left))))


class Kept(Case):
    def test_told_is_the_askers_own(self):
        table = groups(3, 1)
        rules = [Span(3000)]
        rule = AllOf(rules)
        earlier = lawful(table, "h", rule)
        changed = lawful(table, "h", rule)
        for row in changed:
            row.append("x")
        changed.clear()
        rules.append(Span(0))
        self.assertEqual(sorted(lawful(table, "h", rule)), sorted(earlier))
        self.assertEqual(len(earlier), 8)
        self.assertEqual(len({len(row) for row in earlier}), 3)
        self.assertEqual(sorted(table.names()), ["t0x0", "t0x1", "t0x2", "t1x0"])
