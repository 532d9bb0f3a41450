"""The names and arguments that the interface tells."""

import inspect
import unittest

from fairknife import envy, fractions, pieces, tastes, texts, ways

FUNCTIONS = [
    (fractions, "made", ["a", "b"]),
    (fractions, "plus", ["one", "other"]),
    (fractions, "minus", ["one", "other"]),
    (fractions, "times", ["one", "other"]),
    (fractions, "over", ["one", "other"]),
    (fractions, "below", ["one", "other"]),
    (pieces, "whole", []),
    (pieces, "joined", ["one", "other"]),
    (pieces, "shared", ["one", "other"]),
    (pieces, "without", ["one", "other"]),
    (pieces, "deals", ["pieces"]),
    (envy, "envy", ["pieces", "tastes"]),
    (texts, "taste_text", ["taste"]),
    (texts, "piece_text", ["piece"]),
    (texts, "taste_of", ["text"]),
    (texts, "piece_of", ["text"]),
]
CLASSES = [
    (tastes, "Taste", ["steps"]),
    (ways, "Way", []),
    (ways, "Choose", []),
    (ways, "Last", []),
    (ways, "Halves", []),
    (ways, "Three", []),
    (ways, "Even", []),
    (ways, "Alike", []),
]
METHODS = {
    "Taste": [("steps", []), ("worth", ["piece"]), ("mark", ["start", "share"]), ("cut", ["piece", "share"])],
    "Way": [("deal", ["tastes"])],
    "Choose": [("deal", ["tastes"])],
    "Last": [("deal", ["tastes"])],
    "Halves": [("deal", ["tastes"])],
    "Three": [("deal", ["tastes"])],
    "Even": [("deal", ["tastes"])],
    "Alike": [("deal", ["tastes"])],
}


class Interface(unittest.TestCase):
    def assert_arguments(self, thing, told):
        self.assertEqual(list(inspect.signature(thing).parameters), told)

    def test_functions(self):
        for module, name, told in FUNCTIONS:
            with self.subTest(name):
                self.assertTrue(inspect.isfunction(getattr(module, name)))
                self.assert_arguments(getattr(module, name), told)

    def test_classes(self):
        for module, name, told in CLASSES:
            with self.subTest(name):
                self.assertTrue(inspect.isclass(getattr(module, name)))
                self.assert_arguments(getattr(module, name), told)

    def test_methods(self):
        for module, name, told in CLASSES:
            for method, arguments in METHODS[name]:
                with self.subTest(name + "." + method):
                    self.assert_arguments(getattr(getattr(module, name), method), ["self"] + arguments)
