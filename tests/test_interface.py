"""The names and arguments of the interface, each in the file that lists it."""

import inspect
import unittest

from kindsofday import plans, versions


class Interface(unittest.TestCase):

    def test_defined_in_their_files(self):
        self.assertEqual(plans.Plan.__module__, "kindsofday.plans")
        self.assertEqual(plans.look.__module__, "kindsofday.plans")
        self.assertEqual(versions.stretches.__module__, "kindsofday.versions")

    def test_methods_are_the_class_own(self):
        for name in ("__init__", "dimensions", "measures", "__eq__", "__ne__"):
            self.assertIn(name, vars(plans.Plan))

    def test_arguments(self):
        self.assertEqual(str(inspect.signature(plans.Plan)), "(dimensions, measures=())")
        self.assertEqual(str(inspect.signature(plans.look)), "(plan, row)")
        self.assertEqual(str(inspect.signature(versions.stretches)), "(plan, dimension, kinds)")


if __name__ == "__main__":
    unittest.main()
