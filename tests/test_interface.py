import importlib
import inspect
import unittest

# Each module's names and arguments, as the document's interface lists them.
INTERFACE = {
    "moors": {
        "is_count": ["thing"],
        "moor": ["begin", "moves"],
        "covers": ["stand", "other"],
        "able": ["stand", "move"],
        "after": ["stand", "move"],
        "change": ["move"],
    },
    "walks": {
        "run": ["moor", "stand", "row"],
        "stands_of": ["moor", "stand", "row"],
        "hurdle": ["moor", "row"],
        "sum_of": ["moor", "row"],
        "stride": ["moor", "stand", "blocks"],
    },
    "bases": {
        "least": ["stands"],
        "lifted": ["stand", "basis"],
        "source": ["stand", "move"],
        "step_back": ["moves", "basis"],
        "is_shut": ["moves", "basis"],
        "either": ["one", "other"],
        "both": ["one", "other"],
    },
    "backs": {
        "enough": ["moves", "target", "most"],
        "cover": ["moor", "target", "most"],
        "walled": ["moor", "target", "basis"],
        "never": ["moor", "most"],
    },
    "crowns": {
        "under": ["cap", "other"],
        "cap_able": ["cap", "move"],
        "cap_after": ["cap", "move"],
        "raised": ["cap", "elder"],
        "tops": ["caps"],
        "growth": ["moor", "most"],
        "crown": ["moor", "most"],
        "is_crown": ["moor", "caps"],
    },
    "climbs": {
        "way": ["tree", "number"],
        "row_between": ["tree", "elder", "number"],
        "lifts_of": ["moor", "tree", "number"],
        "climb": ["moor", "tree", "number", "height"],
        "peak": ["moor", "place", "most"],
    },
    "weights": {
        "weigh": ["weights", "counts"],
        "is_balance": ["moves", "weights"],
        "is_falling": ["moves", "weights"],
    },
    "balances": {
        "balances": ["moves", "many"],
        "shares": ["basis", "weights"],
    },
    "ceilings": {
        "ceiling": ["moves", "place", "many"],
        "level": ["moves", "many"],
    },
    "sets": {
        "is_dry": ["moves", "places"],
        "is_wet": ["moves", "places"],
        "breaks_dry": ["moves", "places"],
        "breaks_wet": ["moves", "places"],
        "greatest_dry": ["moves", "places"],
        "greatest_wet": ["moves", "places"],
        "least_dry": ["moves", "many"],
        "least_wet": ["moves", "many"],
        "turned": ["moves"],
    },
    "floods": {
        "flood": ["moor", "most"],
        "row_to": ["rows", "number"],
        "bounded": ["moor", "most"],
    },
    "ends": {
        "is_end": ["moor", "stand"],
        "kept": ["moor"],
        "end_of": ["moor", "most"],
        "again": ["moor", "move", "most"],
    },
    "reasons": {
        "reached": ["moor", "stand", "most"],
    },
    "texts": {
        "read": ["text"],
        "shown": ["moor", "places", "moves"],
    },
}
ERRORS = ("MoorError", "NoMoor", "Stuck", "NoText", "NoName", "NoRow")


class Interface(unittest.TestCase):
    def test_names_and_arguments(self):
        for name, functions in INTERFACE.items():
            module = importlib.import_module("tokenmoor." + name)
            for function, arguments in functions.items():
                found = inspect.signature(getattr(module, function)).parameters
                self.assertEqual(list(found), arguments, function)
                self.assertTrue(all(one.default is one.empty for one in found.values()), function)

    def test_the_desk(self):
        desk = importlib.import_module("tokenmoor.desk").Desk
        self.assertTrue(inspect.isclass(desk))
        self.assertEqual(list(inspect.signature(desk).parameters), [])
        found = inspect.signature(desk().say).parameters
        self.assertEqual(list(found), ["row"])
        self.assertTrue(found["row"].default is inspect.Parameter.empty)
        self.assertIs(type(desk().say(row="most 5")), str)

    def test_error_classes(self):
        module = importlib.import_module("tokenmoor.errors")
        for name in ERRORS:
            self.assertTrue(issubclass(getattr(module, name), ValueError))


if __name__ == "__main__":
    unittest.main()
