"""What the tests share: refusals asked for, and plain searches to hold answers against."""

import inspect
import itertools
import unittest
from fractions import Fraction

from fleetpath.blocks import Unlinked
from fleetpath.errors import FleetError, NoPlace, NoTrip, NoWay
from fleetpath.hours import AllOf, Pause, Rule, Shift, Span, Work
from fleetpath.roads import Roads
from fleetpath.trips import Table


def outcome(call, *args):
    """What a call tells, or the class and the fields of its refusal."""
    try:
        return call(*args)
    except FleetError as error:
        return (type(error), vars(error))


class Case(unittest.TestCase):
    def assert_refused(self, kind, fields, call, *args):
        with self.assertRaises(FleetError) as caught:
            call(*args)
        error = caught.exception
        self.assertIs(type(error), kind)
        for field, value in fields.items():
            self.assertEqual(getattr(error, field), value)

    def assert_too_few(self, rows, error):
        """The error's lefts have, all together in these rows, just its rights, and these are too few."""
        self.assertEqual((type(error.lefts), type(error.rights)), (list, list))
        self.assertEqual(len(set(error.lefts)), len(error.lefts))
        self.assertLessEqual(set(error.lefts), set(rows))
        self.assertEqual(len(set(error.rights)), len(error.rights))
        self.assertEqual(set(error.rights), {right for left in error.lefts for right in rows[left]})
        self.assertLess(len(error.rights), len(error.lefts))

    def assert_error_classes(self, module, fields_of):
        """The module defines just these error classes, straight under FleetError, with these fields."""
        defined = [
            name for name, value in vars(module).items()
            if inspect.isclass(value) and issubclass(value, FleetError)
            and value.__module__ == module.__name__ and value is not FleetError
        ]
        self.assertEqual(sorted(defined), sorted(fields_of))
        for name, fields in fields_of.items():
            kind = getattr(module, name)
            self.assertEqual(kind.__bases__, (FleetError,))
            values = [["kept", place] for place in range(len(fields))]
            error = kind(*values)
            for field, value in zip(fields, values):
                self.assertIs(getattr(error, field), value)


def plain_heights(origin, ways):
    """The least minutes to each place, by walking all ways that come to no place twice."""
    least = {}

    def walk(place, minutes, passed):
        least[place] = min(minutes, least.get(place, minutes))
        for start, goal, more in ways:
            if start == place and goal not in passed:
                walk(goal, minutes + more, passed + [goal])

    walk(origin, 0, [origin])
    return least


def random_roads(source, most_places, most_ways, longest):
    places = [f"p{number}" for number in range(source.randint(1, most_places))]
    ways = [
        (source.choice(places), source.choice(places), source.randint(1, longest))
        for _ in range(source.randint(0, most_ways))
    ]
    return places, ways


def subsets(things):
    for size in range(len(things) + 1):
        yield from itertools.combinations(things, size)


def random_table_parts(source, places, ways, count, latest):
    """A list of trips that a table takes; fewer than asked for where the roads lead too few ways."""
    heights = {place: plain_heights(place, ways) for place in places}
    trips = []
    for number in range(count):
        origin = source.choice(places)
        goal = source.choice(sorted(heights[origin]))
        start = source.randint(0, latest)
        finish = start + max(1, heights[origin][goal]) + source.randint(0, 3)
        trips.append((f"t{number}", origin, goal, start, finish, source.randint(0, 9)))
    source.shuffle(trips)
    return trips


def plain_linked(heights, one, other):
    """Whether one car can drive both trips, that one ahead; heights as plain_heights tells them, by place."""
    length = heights[one[2]].get(other[1])
    return length is not None and one[4] + length <= other[3]


def partitions(things):
    if not things:
        yield []
        return
    for rest in partitions(things[1:]):
        yield [[things[0]]] + rest
        for place in range(len(rest)):
            yield rest[:place] + [[things[0]] + rest[place]] + rest[place + 1:]


def can_be_chain(order, names):
    """Whether the names can stand in a row, each next one behind the one ahead, in some order."""
    return any(
        all(later in order[earlier] for earlier, later in zip(row, row[1:]))
        for row in itertools.permutations(names)
    )


def plain_fewest_chains(order):
    return min(
        len(parts) for parts in partitions(list(order))
        if all(can_be_chain(order, part) for part in parts)
    )


def are_apart(order, names):
    return all(other not in order[one] for one in names for other in names)


def plain_most_apart(order):
    return max(len(names) for names in subsets(list(order)) if are_apart(order, names))


class Office:
    """A table beside lengths, links and refusals that are reckoned plainly of the same places, ways and trips."""

    def __init__(self, places, ways, trips):
        self.places = list(places)
        self.trips = {trip[0]: trip for trip in trips}
        self.heights = {place: plain_heights(place, ways) for place in places}
        self.table = Table(Roads(places, ways), trips)

    def length(self, origin, goal):
        return self.heights[origin].get(goal)

    def linked(self, one, other):
        return plain_linked(self.heights, self.trips[one], self.trips[other])

    def rows(self):
        """Every row of trips, the one without names too."""
        def walk(row):
            yield row
            for name in self.trips:
                if not row or self.linked(row[-1], name):
                    yield from walk(row + [name])

        return list(walk([]))

    def linked_refusal(self, names):
        for name in names:
            if name not in self.trips:
                return (NoTrip, {"name": name})
        for one, other in zip(names, names[1:]):
            if not self.linked(one, other):
                return (Unlinked, {"first": one, "second": other})
        return None

    def row_refusal(self, home, names):
        if home not in self.places:
            return (NoPlace, {"name": home})
        return self.linked_refusal(names)

    def block_refusal(self, home, names):
        refusal = self.row_refusal(home, names)
        if refusal or not names:
            return refusal
        origin, goal = self.trips[names[0]][1], self.trips[names[-1]][2]
        if self.length(home, origin) is None:
            return (NoWay, {"origin": home, "goal": origin})
        if self.length(goal, home) is None:
            return (NoWay, {"origin": goal, "goal": home})
        return None

    def block_minutes(self, home, names):
        """Every minute in which something goes on from home to home, with the word of it and of which trip."""
        minutes = {}
        place, free = home, None
        for name in names:
            _, origin, goal, start, finish, _ = self.trips[name]
            way = self.length(place, origin)
            left = start - way if free is None else free
            minutes.update({minute: ("way", name) for minute in range(left, left + way)})
            minutes.update({minute: ("wait", name) for minute in range(left + way, start)})
            minutes.update({minute: ("trip", name) for minute in range(start, finish)})
            place, free = goal, finish
        if names:
            minutes.update({minute: ("way", None) for minute in range(free, free + self.length(place, home))})
        return minutes

    def driven(self, home, names):
        return len([word for word, _ in self.block_minutes(home, names).values() if word != "wait"])


def random_office(source, most_places=4, most_ways=10, count=5, latest=25, longest=5):
    places, ways = random_roads(source, most_places, most_ways, longest)
    return Office(places, ways, random_table_parts(source, places, ways, count, latest))


def random_names(source, office, most=4):
    """A list of names that is a row more often than not, and else has strangers or names in a wrong order."""
    names = source.choice(office.rows())
    if source.random() < 0.3:
        names = [source.choice(list(office.trips) + ["stranger", ""]) for _ in range(source.randint(0, most))]
    return list(names)


def some_rules(source):
    """Rules of every class, with numbers around what small offices need."""
    plain = [
        Rule(), Span(source.randint(-1, 40)), Work(source.randint(-1, 25)),
        Pause(source.randint(-1, 15), source.randint(1, 9)),
        Shift(source.randint(-9, 15), source.randint(10, 50)),
    ]
    return plain + [AllOf(source.sample(plain[1:], source.randint(0, 3)))]


def plain_sheet(office, home, names):
    """The minutes one by one, those of one way, one wait or one trip put together."""
    minutes = office.block_minutes(home, names)
    return [
        (word, run[0][0], run[-1][0] + 1)
        for (word, _), run in (
            (key, list(group)) for key, group in itertools.groupby(sorted(minutes.items()), lambda item: item[1])
        )
    ]


def plain_fits(rule, rows):
    """Whether a rule lets a sheet by, reckoned minute by minute."""
    words = {minute: word for word, start, finish in rows for minute in range(start, finish)}
    if not words:
        return True
    if type(rule) is Span:
        return len(words) <= rule.most
    if type(rule) is Work:
        return list(words.values()).count("way") + list(words.values()).count("trip") <= rule.most
    if type(rule) is Shift:
        return all(rule.first <= minute < rule.last for minute in words)
    if type(rule) is AllOf:
        return all(plain_fits(part, rows) for part in rule.rules)
    if type(rule) is Pause:
        return all(minutes <= rule.most for minutes in stretches(rule.least, words))
    return True


def stretches(least, words):
    """The trips' minutes between pauses: one sign a minute, parted where enough signs of waiting stand together."""
    signs = "".join({"way": "", "trip": "t", "wait": "."}[words[minute]] for minute in sorted(words))
    told = [0]
    for sign, run in itertools.groupby(signs):
        count = len(list(run))
        if sign == "t":
            told[-1] += count
        elif count >= least:
            told.append(0)
    return told


def exact(top, bottom):
    """A fraction in lowest terms as a tuple, by Python's own fractions."""
    made = Fraction(top, bottom)
    return (made.numerator, made.denominator)


def plain_weight(shares, row):
    return sum((Fraction(*shares[name]) for name in row), Fraction(0))


def can_be_dealt(rows):
    """Whether each left can have a right of its own, by trying everything."""
    return any(len(set(rights)) == len(rights) for rights in itertools.product(*rows.values()))
