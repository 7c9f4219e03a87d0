import copy
import itertools
import random

from fleetpath import care as module
from fleetpath.care import Crowded, NoNight, care, check_weeks, metres, nights
from fleetpath.errors import LIMIT, BadName, BadNumber, TooMany, Twice
from tests.helper import Case, drive, outcome, plain_nights

NONE = [0] * 7
# Night 2 alone: 4 up to day 2, and 4 behind it.
ONE_NIGHT = ("one", 1, 4, [1, 1, 1, 1, 1, 1, 1])


def week(name="car", metre=0, due=10, loads=NONE):
    return (name, metre, due, list(loads))


class Errors(Case):
    def test_classes(self):
        self.assert_error_classes(module, {"NoNight": ["name"], "Crowded": ["first", "last", "cars"]})


class Nights(Case):
    def test_each_night_alone(self):
        for night in range(6):
            loads = [0] * 7
            loads[night] = 10
            loads[night + 1] = 10
            for metre, due, told in ((0, 9, []), (0, 10, [night]), (1, 10, []), (1, 11, [night]), (2, 11, [])):
                self.assertEqual(nights(metre, due, loads), told)
        self.assertEqual(nights(0, 10, [0, 0, 0, 0, 0, 0, 10]), [0, 1, 2, 3, 4, 5, 6])
        self.assertEqual(nights(1, 10, [0, 0, 0, 0, 0, 0, 10]), [0, 1, 2, 3, 4, 5])
        self.assertEqual(nights(0, 9, [0, 0, 0, 0, 0, 0, 10]), [])

    def test_at_the_edge_of_due(self):
        for due, told in ((3, []), (4, [2]), (5, [1, 2, 3]), (6, [0, 1, 2, 3, 4]), (7, [0, 1, 2, 3, 4, 5])):
            self.assertEqual(nights(1, due, [1] * 7), told)
        self.assertEqual(nights(1, 8, [1] * 7), [0, 1, 2, 3, 4, 5, 6])

    def test_behind_night_six_there_is_no_day(self):
        self.assertEqual(nights(0, 7, [1, 1, 1, 1, 1, 1, 1]), [0, 1, 2, 3, 4, 5, 6])
        self.assertEqual(nights(0, 6, [1, 1, 1, 1, 1, 1, 1]), [0, 1, 2, 3, 4, 5])
        self.assertEqual(nights(0, 6, [6, 0, 0, 0, 0, 0, 6]), [0, 1, 2, 3, 4, 5])
        self.assertEqual(nights(6, 6, [0, 0, 0, 0, 0, 0, 6]), [0, 1, 2, 3, 4, 5])

    def test_a_car_that_needs_no_care(self):
        self.assertEqual(nights(0, 1, NONE), [0, 1, 2, 3, 4, 5, 6])
        self.assertEqual(nights(3, 10, [1] * 7), [0, 1, 2, 3, 4, 5, 6])

    def test_no_night(self):
        self.assertEqual(nights(2, 1, NONE), [])
        self.assertEqual(nights(0, 5, [6, 0, 0, 0, 0, 0, 0]), [])
        self.assertEqual(nights(0, 5, [2, 2, 2, 2, 2, 2, 2]), [])

    def test_any_counts(self):
        self.assertEqual(nights(0, 0, NONE), [0, 1, 2, 3, 4, 5, 6])
        self.assertEqual(nights(0, LIMIT, [LIMIT, LIMIT, 0, 0, 0, 0, 0]), [0])
        self.assertEqual(nights(0, LIMIT, [LIMIT] * 7), [])

    def test_against_driving(self):
        source = random.Random(47)
        for _ in range(2000):
            metre, due = source.randint(0, 6), source.randint(0, 20)
            loads = [source.randint(0, 6) for _ in range(7)]
            self.assertEqual(nights(metre, due, loads), plain_nights(metre, due, loads))


class Metres(Case):
    def test_each_night_and_none(self):
        loads = [1, 2, 3, 4, 5, 6, 7]
        self.assertEqual(metres(10, loads, None), [11, 13, 16, 20, 25, 31, 38])
        self.assertEqual(metres(10, loads, 0), [11, 2, 5, 9, 14, 20, 27])
        self.assertEqual(metres(10, loads, 3), [11, 13, 16, 20, 5, 11, 18])
        self.assertEqual(metres(10, loads, 5), [11, 13, 16, 20, 25, 31, 7])
        self.assertEqual(metres(10, loads, 6), [11, 13, 16, 20, 25, 31, 38])

    def test_without_loads(self):
        self.assertEqual(metres(4, NONE, None), [4] * 7)
        self.assertEqual(metres(4, NONE, 2), [4, 4, 4, 0, 0, 0, 0])
        self.assertEqual(metres(0, NONE, 0), NONE)

    def test_against_driving(self):
        source = random.Random(48)
        for _ in range(500):
            metre, loads = source.randint(0, 9), [source.randint(0, 9) for _ in range(7)]
            for night in (None, 0, 1, 2, 3, 4, 5, 6):
                told = metres(metre, loads, night)
                self.assertEqual((type(told), told), (list, drive(metre, loads, night)))

    def test_great_counts(self):
        self.assertEqual(metres(LIMIT, [LIMIT] * 7, 1), [LIMIT * many for many in (2, 3, 1, 2, 3, 4, 5)])


class Weeks(Case):
    def refused(self, kind, fields, weeks):
        self.assert_refused(kind, fields, check_weeks, weeks)
        for bays in (0, 3, -1, LIMIT + 1):
            self.assert_refused(kind, fields, care, weeks, bays)

    def test_let_by(self):
        for weeks in (
            [], [week()], [week(metre=LIMIT, due=LIMIT, loads=[LIMIT] * 7)], [week(due=1)],
            [week(metre=9, due=1, loads=[5] * 7)], [week(f"c{number}") for number in range(40)],
        ):
            self.assertIsNone(check_weeks(weeks))

    def test_forty_one(self):
        weeks = [week(f"c{number}") for number in range(41)]
        self.assertEqual(care(weeks[:40], 0), {f"c{number}": None for number in range(40)})
        self.refused(TooMany, {"most": 40}, weeks)
        self.refused(TooMany, {"most": 40}, [week("", -1, -1, [-1] * 7)] + weeks[:40])

    def test_each_refusal(self):
        for name in ("", "x" * 13, "A", "a b", "a\n"):
            self.refused(BadName, {"name": name}, [week(), week(name)])
        self.refused(Twice, {"name": "car"}, [week(), week("other"), week()])
        for value in (-1, LIMIT + 1, -(10 ** 299), 10 ** 299):
            self.refused(BadNumber, {"value": value}, [week("other"), week(metre=value)])
            self.refused(BadNumber, {"value": value}, [week("other"), week(due=value)])
            for day in range(7):
                loads = [0] * 7
                loads[day] = value
                self.refused(BadNumber, {"value": value}, [week("other"), week(loads=loads)])
        self.refused(BadNumber, {"value": 0}, [week(due=0)])

    def test_several_at_once(self):
        bad = [-4, 0, 0, 0, 0, 0, -5]
        self.refused(BadName, {"name": "A"}, [week("A", -1, -2, bad)])
        self.refused(Twice, {"name": "car"}, [week(), week("car", -1, -2, bad)])
        self.refused(BadNumber, {"value": -1}, [week("car", -1, -2, bad)])
        self.refused(BadNumber, {"value": -2}, [week("car", 0, -2, bad)])
        self.refused(BadNumber, {"value": -4}, [week("car", 0, 1, bad)])
        self.refused(BadNumber, {"value": -5}, [week(loads=[0, 0, 0, 0, 0, 0, -5]), week("A")])
        self.refused(BadNumber, {"value": -4}, [week(loads=bad), week()])
        self.refused(Twice, {"name": "car"}, [week(), week(), week("A")])


class CareCase(Case):
    def needy(self, weeks):
        return [name for name, metre, due, loads in weeks if metre + sum(loads) > due]

    def assert_care(self, weeks, bays, told):
        self.assertIs(type(told), dict)
        self.assertEqual(set(told), {name for name, _, _, _ in weeks})
        needy = self.needy(weeks)
        for name, metre, due, loads in weeks:
            if name in needy:
                self.assertIn(told[name], plain_nights(metre, due, loads))
            else:
                self.assertIsNone(told[name])
            self.assertLessEqual(max(metres(metre, loads, told[name])), due)
        for night in range(7):
            self.assertLessEqual(list(told.values()).count(night), bays)

    def assert_crowded(self, weeks, bays, error):
        self.assertLessEqual(0, error.first)
        self.assertLessEqual(error.first, error.last)
        self.assertLessEqual(error.last, 6)
        self.assertIs(type(error.cars), list)
        self.assertEqual(len(set(error.cars)), len(error.cars))
        by_name = {name: (metre, due, loads) for name, metre, due, loads in weeks}
        for name in error.cars:
            self.assertIn(name, self.needy(weeks))
            for night in plain_nights(*by_name[name]):
                self.assertLessEqual(error.first, night)
                self.assertLessEqual(night, error.last)
        self.assertGreater(len(error.cars), bays * (error.last - error.first + 1))

    def can_be_cared_for(self, weeks, bays):
        needy = self.needy(weeks)
        lists = [plain_nights(metre, due, loads) for name, metre, due, loads in weeks if name in needy]
        return any(
            all(chosen.count(night) <= bays for night in chosen) for chosen in itertools.product(*lists)
        )

    def assert_as_a_plain_search(self, weeks, bays):
        before = copy.deepcopy(weeks)
        needy = self.needy(weeks)
        nightless = [week[0] for week in weeks if week[0] in needy and not plain_nights(*week[1:])]
        if nightless:
            self.assertEqual(outcome(care, weeks, bays), (NoNight, {"name": nightless[0]}))
            kind = "no night"
        elif self.can_be_cared_for(weeks, bays):
            self.assert_care(weeks, bays, care(weeks, bays))
            kind = "care"
        else:
            with self.assertRaises(Crowded) as caught:
                care(weeks, bays)
            self.assert_crowded(weeks, bays, caught.exception)
            kind = "crowded"
        self.assertEqual(weeks, before)
        return kind


class Care(CareCase):
    def test_no_weeks(self):
        for bays in (0, 1, LIMIT):
            self.assertEqual(care([], bays), {})

    def test_no_care_just_where_none_is_needed(self):
        told = care([week("a", 3, 10, [1] * 7), week("b", 4, 10, [1] * 7)], 1)
        self.assertIsNone(told["a"])
        self.assertIn(told["b"], range(6))
        self.assertEqual(care([week(metre=10, due=10)], 0), {"car": None})
        self.assertIn(care([week(metre=9, due=10, loads=[0, 0, 0, 0, 0, 0, 2])], 1)["car"], range(6))

    def test_the_one_night(self):
        self.assertEqual(care([ONE_NIGHT], 1), {"one": 2})
        self.assertEqual(care([ONE_NIGHT, week("a", 1, 4, [1] * 7)], 2), {"one": 2, "a": 2})
        self.assertEqual(care([ONE_NIGHT], LIMIT), {"one": 2})

    def test_bays(self):
        for bays in (-1, LIMIT + 1, -(10 ** 299)):
            self.assert_refused(BadNumber, {"value": bays}, care, [], bays)
            self.assert_refused(BadNumber, {"value": bays}, care, [week(metre=11)], bays)
            self.assert_refused(BadNumber, {"value": bays}, care, [ONE_NIGHT] + [week(metre=11)], bays)

    def test_no_bays(self):
        self.assertEqual(care([week()], 0), {"car": None})
        with self.assertRaises(Crowded) as caught:
            care([week(), ONE_NIGHT], 0)
        self.assert_crowded([week(), ONE_NIGHT], 0, caught.exception)
        self.assertEqual(caught.exception.cars, ["one"])

    def test_no_night(self):
        none = week("none", 11, 10)
        self.assert_refused(NoNight, {"name": "none"}, care, [none], 1)
        self.assert_refused(NoNight, {"name": "none"}, care, [week(), none, week("last", 12, 10)], 0)
        self.assert_refused(NoNight, {"name": "none"}, care, [ONE_NIGHT, week("a", 1, 4, [1] * 7), none], 1)
        self.assert_refused(NoNight, {"name": "far"}, care, [week("far", 0, 5, [2] * 7), none], 1)

    def test_crowded(self):
        weeks = [ONE_NIGHT, week("a", 1, 4, [1] * 7), week("b", 3, 4, [1] * 7)]
        self.assert_refused(NoNight, {"name": "b"}, care, weeks, 1)
        weeks = [ONE_NIGHT, week(), week("a", 1, 4, [1] * 7)]
        with self.assertRaises(Crowded) as caught:
            care(weeks, 1)
        self.assert_crowded(weeks, 1, caught.exception)
        self.assertEqual(sorted(caught.exception.cars), ["a", "one"])

    def test_those_who_can_wait_give_way(self):
        early = week("early", 5, 6, [1, 1, 1, 1, 1, 1, 0])
        late = week("late", 5, 8, [1, 1, 1, 1, 1, 1, 0])
        self.assertEqual((nights(*early[1:]), nights(*late[1:])), ([0], [0, 1, 2]))
        for weeks in ([early, late], [late, early]):
            self.assert_care(weeks, 1, care(weeks, 1))
        other = week("other", 5, 7, [1, 1, 1, 1, 1, 1, 0])
        for weeks in itertools.permutations([early, late, other]):
            self.assertEqual(care(list(weeks), 1), {"early": 0, "other": 1, "late": 2})

    def test_against_a_plain_search(self):
        source = random.Random(49)
        seen = []
        for _ in range(1500):
            weeks = []
            for name in "abcde"[:source.randint(0, 5)]:
                due = source.randint(8, 16)
                metre = source.randint(0, min(due, 12))
                weeks.append((name, metre, due, [source.randint(0, 4) for _ in range(7)]))
            seen.append(self.assert_as_a_plain_search(weeks, source.randint(0, 2)))
        for kind in ("no night", "care", "crowded"):
            self.assertGreater(seen.count(kind), 100)

    def test_narrow_weeks_against_a_plain_search(self):
        """Cars with a few nights each, somewhere in the week."""
        source = random.Random(50)
        seen = []
        for _ in range(800):
            weeks = []
            for name in "abcdef":
                first = source.randint(0, 5)
                last = min(6, first + source.randint(0, 2))
                loads = [0] * 7
                loads[first] += 6
                loads[last] += 5
                if last < 6:
                    loads[last + 1] += 6
                weeks.append((name, source.randint(0, 1), 12, loads))
            seen.append(self.assert_as_a_plain_search(weeks, source.randint(1, 2)))
        self.assertGreater(seen.count("care"), 50)
        self.assertGreater(seen.count("crowded"), 50)

    def test_forty_cars(self):
        weeks = [(f"c{number}", 1, 4 + number % 4, [1] * 7) for number in range(40)]
        for bays in range(45):
            try:
                self.assert_care(weeks, bays, care(weeks, bays))
                self.assertGreaterEqual(bays, 10)
            except Crowded as error:
                self.assertLess(bays, 10)
                self.assert_crowded(weeks, bays, error)


class Kept(CareCase):
    def test_changing_what_was_handed_in_or_told(self):
        loads = [1] * 7
        weeks = [("a", 1, 4, loads), ("b", 0, 9, loads)]
        told = care(weeks, 1)
        told_nights, told_metres = nights(1, 4, loads), metres(1, loads, 2)
        loads[0] = 5
        weeks.append(week())
        self.assertEqual(told, {"a": 2, "b": None})
        self.assertEqual((told_nights, told_metres), ([2], [2, 3, 4, 1, 2, 3, 4]))
        self.assertEqual(nights(1, 4, loads), [])
        self.assert_refused(NoNight, {"name": "a"}, care, weeks, 1)
        loads[0] = 1
        nights(1, 4, loads).clear()
        metres(1, loads, 2).clear()
        care(weeks, 1).clear()
        self.assertEqual(care(weeks, 1), {"a": 2, "b": None, "car": None})
        self.assertEqual(metres(1, loads, 2), told_metres)
        self.assertEqual(weeks, [("a", 1, 4, [1] * 7), ("b", 0, 9, [1] * 7), week()])

    def test_a_paper_is_the_askers_own(self):
        weeks = [ONE_NIGHT, week("a", 1, 4, [1] * 7)]
        for _ in range(2):
            with self.assertRaises(Crowded) as caught:
                care(weeks, 1)
            self.assert_crowded(weeks, 1, caught.exception)
            caught.exception.cars.clear()
