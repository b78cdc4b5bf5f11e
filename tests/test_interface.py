"""The names and arguments of the interface, each in the file that lists it."""

import inspect
import unittest

from kindsofday import desk, houses, plans, readings, texts, versions

FUNCTIONS = (
    (plans, "look", "(plan, row)"),
    (versions, "stretches", "(plan, dimension, kinds)"),
    (texts, "show_plan", "(plan)"),
    (texts, "show_rows", "(rows)"),
    (readings, "read_plan", "(text)"),
    (readings, "read_rows", "(plan, text)"),
)
CLASSES = (
    (plans, "Plan", "(dimensions, measures=())"),
    (houses, "House", "(plan)"),
    (desk, "Desk", "()"),
)
METHODS = {
    plans.Plan: {"dimensions": "(self)", "measures": "(self)", "__eq__": "(self, other)", "__ne__": "(self, other)"},
    houses.House: {
        "tell": "(self, row)", "versions": "(self, dimension, key)", "keys_of": "(self, dimension)",
        "facts": "(self)", "rows": "(self)", "__len__": "(self)", "__eq__": "(self, other)",
        "__ne__": "(self, other)", "plain": "(self)", "watch": "(self, name, groups, *, measure=None)",
        "watches": "(self)", "sums": "(self, name)", "news": "(self)", "known": "(self, many)",
        "since": "(self, dimension, key, day, attribute)",
    },
    desk.Desk: {"say": "(self, row)", "book": "(self)"},
}


class Interface(unittest.TestCase):

    def test_defined_in_their_files_with_their_arguments(self):
        for module, name, arguments in FUNCTIONS + CLASSES:
            with self.subTest(name):
                self.assertEqual(getattr(module, name).__module__, module.__name__)
                self.assertEqual(str(inspect.signature(getattr(module, name))), arguments)

    def test_functions_and_classes(self):
        for module, name, arguments in FUNCTIONS:
            self.assertTrue(inspect.isfunction(getattr(module, name)))
        for module, name, arguments in CLASSES:
            self.assertTrue(inspect.isclass(getattr(module, name)))

    def test_methods_are_the_class_own(self):
        for owner, methods in METHODS.items():
            for name, arguments in methods.items():
                with self.subTest(owner=owner, name=name):
                    self.assertIn(name, vars(owner))
                    self.assertEqual(str(inspect.signature(getattr(owner, name))), arguments)


if __name__ == "__main__":
    unittest.main()
