"""Holds the whole program against the interface: its files, names, arguments, bounds and error classes."""

import importlib
import inspect
import pkgutil

import fleetpath
from fleetpath.errors import FleetError
from fleetpath.hours import Rule
from fleetpath.judges import Judge
from tests.helper import Case

FUNCTIONS = {
    "checks": {"checked_name": "name", "checked_number": "value least"},
    "clock": {"shown": "minute", "read": "text"},
    "links": {"gap": "table one other", "linked": "table one other", "links": "table"},
    "pairs": {"matching": "rows", "cover": "rows", "lacking": "rows"},
    "chains": {"chains": "order", "apart": "order"},
    "blocks": {
        "check_row": "table home names", "block_length": "table home names", "cut": "table home names limit",
        "legs": "table home blocks",
    },
    "giving": {
        "dealt": "rows", "check_cars": "cars", "fit_cars": "table home blocks cars",
        "give_cars": "table home blocks cars",
    },
    "care": {"check_weeks": "weeks", "nights": "metre due loads", "metres": "metre loads night", "care": "weeks bays"},
    "hours": {"sheet": "table home names", "broken": "rules rows"},
    "duties": {"lawful": "table home rule"},
    "portions": {
        "fraction": "top bottom", "plus": "one other", "minus": "one other", "below": "one other", "ceiling": "one",
        "together": "many",
    },
    "shares": {"weight": "shares row", "fitting": "shares rows", "even": "rows", "raised": "shares rows"},
    "crews": {"greedy": "names rows", "priced": "names rows", "crew": "names rows", "bounds": "names rows"},
    "drivers": {
        "check_drivers": "drivers", "driver_fits": "table rule driver names", "fit_drivers": "table rule duties drivers",
        "give_drivers": "table rule duties drivers",
    },
    "prices": {"deal": "costs leaving"},
    "mending": {
        "begun": "table names now", "pieces": "table names", "in_time": "table judge key had first now",
        "mend": "table judge rows now loose failed",
    },
    "relinking": {"relink": "table judge rows now loose failed"},
    "papers": {
        "way_holds": "ways origin goal way heights", "few_holds": "rows lefts rights",
        "deal_holds": "costs leaving dealt thing_prices key_prices",
    },
    "checker": {
        "cars_hold": "table chains apart", "pieces_hold": "table home names limit pieces",
        "giving_holds": "table home blocks cars names", "care_holds": "weeks bays told",
        "crowd_holds": "weeks bays first last names", "duties_hold": "table home rule duties",
        "shares_hold": "table home rule shares", "bounds_hold": "table home rule told",
    },
    "texts": {"words_of": "line", "number_of": "word", "joined": "first names"},
}

# Of each class what it is made of, and its methods with theirs.
CLASSES = {
    ("roads", "Roads"): ("places ways", {
        "names": "", "length": "origin goal", "way": "origin goal", "heights": "origin",
    }),
    ("trips", "Table"): ("roads trips", {"names": "", "trip": "name"}),
    ("hours", "Rule"): ("", {"fits": "rows", "word": ""}),
    ("hours", "Span"): ("most", {"fits": "rows", "word": ""}),
    ("hours", "Work"): ("most", {"fits": "rows", "word": ""}),
    ("hours", "Pause"): ("most least", {"fits": "rows", "word": ""}),
    ("hours", "Shift"): ("first last", {"fits": "rows", "word": ""}),
    ("hours", "AllOf"): ("rules", {"fits": "rows", "word": ""}),
    ("judges", "Judge"): ("", {"stands": "table key names", "place_of": "key"}),
    ("judges", "CarJudge"): ("home cars", {"stands": "table key names", "place_of": "key"}),
    ("judges", "DriverJudge"): ("rule drivers", {"stands": "table key names", "place_of": "key"}),
    ("day", "Day"): ("table judge rows now", {
        "now": "", "rows": "", "left": "", "lost": "", "table": "", "paper": "", "tick": "minute",
        "late": "name minutes", "put_in": "trip", "fail": "key",
    }),
    ("desk", "Desk"): ("", {"run": "line"}),
}

BOUNDS = {
    ("errors", "LIMIT"): 1000000000, ("roads", "MOST_PLACES"): 12, ("roads", "MOST_WAYS"): 60,
    ("trips", "MOST_TRIPS"): 40, ("pairs", "MOST_LEFTS"): 40, ("duties", "DEEP"): 5, ("duties", "MOST_DUTIES"): 400,
    ("crews", "MOST_NAMES"): 40, ("crews", "MOST_ROWS"): 400, ("crews", "FEW"): 8, ("mending", "BIG"): 1000,
}

ERRORS = {
    "errors": {
        "BadName": "name", "BadNumber": "value", "BadTime": "text", "TooMany": "most", "Twice": "name",
        "NoPlace": "name", "NoWay": "origin goal", "NoTrip": "name",
    },
    "trips": {"Backward": "name", "TooFast": "name"},
    "chains": {"Ring": "name", "NotOrdered": "first second third"},
    "blocks": {"Unlinked": "first second", "TooLong": "name"},
    "giving": {"TooFew": "lefts rights"},
    "care": {"NoNight": "name", "Crowded": "first last cars"},
    "duties": {"Unlawful": "name"},
    "portions": {"NoFraction": "top"},
    "shares": {"BadShare": "name", "Overfull": "row"},
    "crews": {"NoDuty": "name"},
    "judges": {"NoKey": "name"},
    "day": {"Unfit": "name", "Back": "value", "Done": "name", "Past": "name", "Failed": "name"},
    "texts": {"BadLine": "text", "BadWord": "text"},
    "desk": {"NoDay": "", "DayOpen": "", "NoHome": ""},
}


def module(name):
    return importlib.import_module(f"fleetpath.{name}")


def arguments(call):
    return [name for name in inspect.signature(call).parameters if name != "self"]


class Interface(Case):
    def test_functions(self):
        for name, functions in FUNCTIONS.items():
            for function, told in functions.items():
                with self.subTest(function=f"{name}.{function}"):
                    self.assertEqual(arguments(getattr(module(name), function)), told.split())

    def test_classes_and_methods(self):
        for (name, kind), (told, methods) in CLASSES.items():
            with self.subTest(kind=kind):
                made = getattr(module(name), kind)
                self.assertEqual(arguments(made), told.split())
                for method, asked in methods.items():
                    self.assertEqual(arguments(getattr(made, method)), asked.split())
        self.assertEqual(inspect.signature(module("day").Day).parameters["now"].default, 0)

    def test_classes_under_others(self):
        for name in ("Span", "Work", "Pause", "Shift", "AllOf"):
            self.assertEqual(getattr(module("hours"), name).__bases__, (Rule,))
        for name in ("CarJudge", "DriverJudge"):
            self.assertEqual(getattr(module("judges"), name).__bases__, (Judge,))

    def test_bounds(self):
        for (name, bound), value in BOUNDS.items():
            self.assertEqual(getattr(module(name), bound), value)

    def test_error_classes(self):
        for found in pkgutil.iter_modules(fleetpath.__path__):
            with self.subTest(file=found.name):
                told = ERRORS.get(found.name, {})
                self.assert_error_classes(module(found.name), {name: told[name].split() for name in told})

    def test_no_error_class_stands_under_another(self):
        names = [name for told in ERRORS.values() for name in told]
        self.assertEqual(len(set(names)), len(names))
        self.assertEqual(sorted(kind.__name__ for kind in FleetError.__subclasses__()), sorted(names))
        for kind in FleetError.__subclasses__():
            self.assertEqual((kind.__bases__, kind.__subclasses__()), ((FleetError,), []))
        self.assertEqual(FleetError.__bases__, (ValueError,))
