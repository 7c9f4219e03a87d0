"""The promise over the whole program: the checker lets by what is told of any office, or it is refused with a paper."""

import copy
import random
from fractions import Fraction

from fleetpath.blocks import TooLong, block_length, cut, legs
from fleetpath.care import Crowded, NoNight, care, metres, nights
from fleetpath.chains import apart, chains
from fleetpath.checker import bounds_hold, care_holds, cars_hold, crowd_holds, giving_holds, pieces_hold
from fleetpath.crews import FEW, bounds
from fleetpath.day import Day
from fleetpath.drivers import driver_fits, fit_drivers, give_drivers
from fleetpath.duties import lawful
from fleetpath.errors import BadNumber, FleetError, NoWay
from fleetpath.giving import TooFew, fit_cars, give_cars
from fleetpath.hours import AllOf, Pause, Span
from fleetpath.judges import CarJudge, Judge
from fleetpath.links import links
from fleetpath.mending import mend
from fleetpath.papers import deal_holds, few_holds, way_holds
from fleetpath.relinking import relink
from fleetpath.roads import Roads
from fleetpath.trips import Table
from tests.helper import Case, outcome, plain_fewest_chains, random_office, random_weeks

RULE = AllOf([Span(60), Pause(30, 3)])


def both_ways(source, count):
    """An office between whose places there are ways, with trips that start late enough to be come to."""
    office = random_office(source, most_places=4, most_ways=30, count=count, latest=80)
    trips = [(name, one, other, start + 20, finish + 20, seats)
             for name, one, other, start, finish, seats in office.trips.values()]
    return office, Table(office.table.roads, trips)


class Whole(Case):
    def look_at_ways(self, office):
        roads = Roads(office.places, office.ways)
        for one in office.places:
            for other in office.places:
                self.assertTrue(way_holds(office.ways, one, other, roads.way(one, other), roads.heights(one)))

    def look_at_blocks(self, table, home):
        """The blocks of the fewest cars, or None where one of the trips can't be driven from home."""
        order = links(table)
        rows = chains(order)
        self.assertTrue(cars_hold(table, rows, apart(order)))
        if len(order) <= 5:
            self.assertEqual(len(rows), plain_fewest_chains(order))
        blocks = []
        for names in rows:
            try:
                pieces = cut(table, home, names, 40)
            except (NoWay, TooLong):
                return None
            self.assertTrue(pieces_hold(table, home, names, 40, pieces))
            blocks += pieces
        return blocks

    def look_at_cars(self, table, home, blocks, cars):
        try:
            self.assertTrue(giving_holds(table, home, blocks, cars, give_cars(table, home, blocks, cars)))
            return "given"
        except TooFew as error:
            rows = dict(enumerate(fit_cars(table, home, blocks, cars)))
            self.assertTrue(few_holds(rows, error.lefts, error.rights))
            return "too few"

    def look_at_care(self, weeks, bays):
        try:
            told = care(weeks, bays)
            self.assertTrue(care_holds(weeks, bays, told))
            for name, metre, due, loads in weeks:
                self.assertLessEqual(max(metres(metre, loads, told[name])), due)
            return "care"
        except Crowded as error:
            self.assertTrue(crowd_holds(weeks, bays, error.first, error.last, error.cars))
            return "crowded"
        except NoNight as error:
            found = [week for week in weeks if week[0] == error.name][0]
            self.assertEqual(nights(*found[1:]), [])
            return "no night"

    def look_at_duties(self, table, home, blocks, drivers):
        """Duties of the blocks' legs with their shares, and drivers for them; or None where a leg is refused."""
        try:
            table = Table(table.roads, legs(table, home, blocks))
            rows = lawful(table, home, RULE)
        except FleetError:
            return None
        told = bounds(table.names(), rows)
        self.assertTrue(bounds_hold(table, home, RULE, told))
        whole = sum(Fraction(1, number + 1) for number in range(max(map(len, rows), default=0)))
        self.assertLessEqual(told[1], whole * sum(Fraction(*share) for share in told[3].values()))
        try:
            names = give_drivers(table, RULE, told[2], drivers)
        except TooFew as error:
            fit = dict(enumerate(fit_drivers(table, RULE, told[2], drivers)))
            self.assertTrue(few_holds(fit, error.lefts, error.rights))
            return "too few"
        self.assertEqual(len(set(names)), len(told[2]))
        by_name = {driver[0]: driver for driver in drivers}
        for name, duty in zip(names, told[2]):
            self.assertTrue(driver_fits(table, RULE, by_name[name], duty))
        return "driven"

    def look_at_a_day(self, source, table, home, blocks, cars):
        """A day that goes wrong: each paper holds, and no fewer trips could be left by links alone."""
        judge = CarJudge(home, [(name, 9, 10 ** 6) for name, _, _ in cars])
        rows = {name: [] for name, _, _ in cars} | {car[0]: names for car, names in zip(cars, blocks)}
        day = Day(table, judge, rows)
        for _ in range(4):
            minute, name = day.now() + source.randint(0, 15), source.choice(table.names())
            day.tick(minute)
            before, left, failed = day.rows(), day.left(), []
            outcome(day.late, name, source.randint(1, 30))
            if day.paper() is not None:
                self.assertTrue(deal_holds(*day.paper()[1][1:]))
            told = relink(day.table(), judge, before, minute, left, failed)
            self.assertTrue(deal_holds(*told[2][1:]))
            whole = mend(day.table(), judge, before, minute, left, failed)
            self.assertTrue(deal_holds(*whole[3][1:]))
            self.assertLessEqual(len(told[1]), len(whole[1]))

    def test_offices_of_any_size(self):
        source = random.Random(5)
        seen = []
        for most in [6] * 80 + [14] * 40 + [40] * 8:
            office, table = both_ways(source, source.randint(1, most))
            home = source.choice(office.places)
            count = source.randint(1, 9)
            cars = [(f"c{number}", source.randint(4, 9), source.randint(20, 60)) for number in range(count)]
            drivers = [(f"d{number}", home, 0, source.randint(0, 9), 150) for number in range(source.randint(1, 9))]
            self.look_at_ways(office)
            seen.append(self.look_at_care(random_weeks(source, source.randint(0, 9)), source.randint(0, 2)))
            blocks = self.look_at_blocks(table, home)
            if blocks is not None:
                seen.append(self.look_at_cars(table, home, blocks, cars))
                seen.append(self.look_at_duties(table, home, blocks, drivers))
                self.look_at_a_day(source, table, home, blocks, cars)
        for kind in ("care", "crowded", "no night", "given", "too few", "driven"):
            self.assertGreater(seen.count(kind), 5, kind)

    def test_few_legs_have_the_fewest_duties(self):
        trips = [(f"t{number}", "h", "h", 20 * number, 20 * number + 15, 0) for number in range(FEW)]
        table = Table(Roads(["h"], []), trips)
        told = bounds(table.names(), lawful(table, "h", Span(35)))
        self.assertEqual((told[1], told[0]), (FEW // 2, FEW // 2))


class Apart(Case):
    """Tables, days and roads know nothing of each other."""

    def test_two_tables(self):
        roads = Roads(["a", "b"], [("a", "b", 5)])
        trips = [("x", "a", "b", 0, 9, 1), ("y", "b", "b", 9, 10, 1)]
        one = Table(roads, trips)
        trips.append(("z", "b", "b", 20, 30, 1))
        other = Table(roads, trips)
        trips[0] = ("x", "b", "b", 50, 60, 1)
        self.assertEqual((one.names(), other.names()), (["x", "y"], ["x", "y", "z"]))
        self.assertEqual((links(one)["x"], links(other)["x"]), (["y"], ["y", "z"]))
        self.assertEqual(one.trip("x"), ("x", "a", "b", 0, 9, 1))

    def test_a_day_and_what_it_was_made_of(self):
        table = Table(Roads(["a"], []), [("x", "a", "a", 5, 9, 1), ("y", "a", "a", 9, 10, 1)])
        rows = {"k": ["x", "y"], "l": []}
        one, other = Day(table, Judge(), rows), Day(table, Judge(), rows)
        before = copy.deepcopy(rows)
        one.late("x", 1)
        one.put_in(("z", "a", "a", 50, 60, 0))
        one.fail("k")
        self.assertEqual((rows, table.names(), block_length(table, "a", ["x", "y"])), (before, ["x", "y"], 5))
        self.assertEqual((other.rows(), other.paper(), other.table().names()), (before, None, ["x", "y"]))
        self.assert_refused(BadNumber, {"value": -1}, one.tick, -1)
        self.assertEqual(other.now(), 0)
