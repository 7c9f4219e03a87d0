from fleetpath import errors
from tests.helper import Case

FIELDS = {
    "BadName": ["name"],
    "BadNumber": ["value"],
    "BadTime": ["text"],
    "TooMany": ["most"],
    "Twice": ["name"],
    "NoPlace": ["name"],
    "NoWay": ["origin", "goal"],
    "NoTrip": ["name"],
}


class Errors(Case):
    def test_limit(self):
        self.assertEqual(errors.LIMIT, 10 ** 9)

    def test_fleet_error_stands_under_value_error(self):
        self.assertEqual(errors.FleetError.__bases__, (ValueError,))

    def test_each_stands_straight_under_fleet_error_and_keeps_its_fields(self):
        self.assert_error_classes(errors, FIELDS)

    def test_fields_of_the_kinds_that_are_handed_in(self):
        self.assertEqual(errors.BadName("A b").name, "A b")
        self.assertEqual(errors.BadNumber(-(10 ** 299)).value, -(10 ** 299))
        way = errors.NoWay("one", "other")
        self.assertEqual((way.origin, way.goal), ("one", "other"))
        self.assertTrue(str(way))
