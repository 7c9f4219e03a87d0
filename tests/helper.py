"""What the tests share: refusals asked for, and plain searches to hold answers against."""

import inspect
import itertools
import unittest

from fleetpath.errors import FleetError


class Case(unittest.TestCase):
    def assert_refused(self, kind, fields, call, *args):
        with self.assertRaises(FleetError) as caught:
            call(*args)
        error = caught.exception
        self.assertIs(type(error), kind)
        for field, value in fields.items():
            self.assertEqual(getattr(error, field), value)

    def assert_error_classes(self, module, fields_of):
        """The module defines just these error classes, straight under FleetError, with these fields."""
        defined = [
            name for name, value in vars(module).items()
            if inspect.isclass(value) and issubclass(value, FleetError)
            and value.__module__ == module.__name__ and value is not FleetError
        ]
        self.assertEqual(sorted(defined), sorted(fields_of))
        for name, fields in fields_of.items():
            kind = getattr(module, name)
            self.assertEqual(kind.__bases__, (FleetError,))
            values = [["kept", place] for place in range(len(fields))]
            error = kind(*values)
            for field, value in zip(fields, values):
                self.assertIs(getattr(error, field), value)


def plain_heights(origin, ways):
    """The least minutes to each place, by walking all ways that come to no place twice."""
    least = {}

    def walk(place, minutes, passed):
        least[place] = min(minutes, least.get(place, minutes))
        for start, goal, more in ways:
            if start == place and goal not in passed:
                walk(goal, minutes + more, passed + [goal])

    walk(origin, 0, [origin])
    return least


def random_roads(source, most_places, most_ways, longest):
    places = [f"p{number}" for number in range(source.randint(1, most_places))]
    ways = [
        (source.choice(places), source.choice(places), source.randint(1, longest))
        for _ in range(source.randint(0, most_ways))
    ]
    return places, ways


def subsets(things):
    for size in range(len(things) + 1):
        yield from itertools.combinations(things, size)


def random_table_parts(source, places, ways, count, latest):
    """A list of trips that a table takes; fewer than asked for where the roads lead too few ways."""
    heights = {place: plain_heights(place, ways) for place in places}
    trips = []
    for number in range(count):
        origin = source.choice(places)
        goal = source.choice(sorted(heights[origin]))
        start = source.randint(0, latest)
        finish = start + max(1, heights[origin][goal]) + source.randint(0, 3)
        trips.append((f"t{number}", origin, goal, start, finish, source.randint(0, 9)))
    source.shuffle(trips)
    return trips


def plain_linked(heights, one, other):
    """Whether one car can drive both trips, that one ahead; heights as plain_heights tells them, by place."""
    length = heights[one[2]].get(other[1])
    return length is not None and one[4] + length <= other[3]


def partitions(things):
    if not things:
        yield []
        return
    for rest in partitions(things[1:]):
        yield [[things[0]]] + rest
        for place in range(len(rest)):
            yield rest[:place] + [[things[0]] + rest[place]] + rest[place + 1:]


def can_be_chain(order, names):
    """Whether the names can stand in a row, each next one behind the one ahead, in some order."""
    return any(
        all(later in order[earlier] for earlier, later in zip(row, row[1:]))
        for row in itertools.permutations(names)
    )


def plain_fewest_chains(order):
    return min(
        len(parts) for parts in partitions(list(order))
        if all(can_be_chain(order, part) for part in parts)
    )


def are_apart(order, names):
    return all(other not in order[one] for one in names for other in names)


def plain_most_apart(order):
    return max(len(names) for names in subsets(list(order)) if are_apart(order, names))
