"""What the tests share: refusals asked for, and plain searches to hold answers against."""

import inspect
import itertools
import unittest

from fleetpath.errors import FleetError


class Case(unittest.TestCase):
    def assert_refused(self, kind, fields, call, *args):
        with self.assertRaises(FleetError) as caught:
            call(*args)
        error = caught.exception
        self.assertIs(type(error), kind)
        for field, value in fields.items():
            self.assertEqual(getattr(error, field), value)

    def assert_error_classes(self, module, fields_of):
        """The module defines just these error classes, straight under FleetError, with these fields."""
        defined = [
            name for name, value in vars(module).items()
            if inspect.isclass(value) and issubclass(value, FleetError)
            and value.__module__ == module.__name__ and value is not FleetError
        ]
        self.assertEqual(sorted(defined), sorted(fields_of))
        for name, fields in fields_of.items():
            kind = getattr(module, name)
            self.assertEqual(kind.__bases__, (FleetError,))
            values = [["kept", place] for place in range(len(fields))]
            error = kind(*values)
            for field, value in zip(fields, values):
                self.assertIs(getattr(error, field), value)


def plain_heights(origin, ways):
    """The least minutes to each place, by walking all ways that come to no place twice."""
    least = {}

    def walk(place, minutes, passed):
        least[place] = min(minutes, least.get(place, minutes))
        for start, goal, more in ways:
            if start == place and goal not in passed:
                walk(goal, minutes + more, passed + [goal])

    walk(origin, 0, [origin])
    return least


def random_roads(source, most_places, most_ways, longest):
    places = [f"p{number}" for number in range(source.randint(1, most_places))]
    ways = [
        (source.choice(places), source.choice(places), source.randint(1, longest))
        for _ in range(source.randint(0, most_ways))
    ]
    return places, ways


def subsets(things):
    for size in range(len(things) + 1):
        yield from itertools.combinations(things, size)
