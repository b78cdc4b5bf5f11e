"""[6]: the form of a row, as far as a plan alone can tell."""

import unittest

from kindsofday.errors import NoRow
from kindsofday.plans import Plan, look

PLAN = Plan(
    [("ware", (("tint", "day"), ("size", "last"))), ("shop", (("town", "before"),)), ("hand", ())],
    ["coins", "hours"],
)
ONE = Plan([("ware", ())])
FULL = Plan(
    [(name, tuple((letter, "day") for letter in "abcde")) for name in ("aaaaaaaa", "b", "c", "d")],
    ["w", "x", "y", "z"],
)


class Looking(unittest.TestCase):

    def fits(self, plan, *rows):
        for row in rows:
            with self.subTest(row=row):
                self.assertIsNone(look(plan, row))

    def refused(self, plan, *rows):
        for row in rows:
            with self.subTest(row=row):
                with self.assertRaises(NoRow) as caught:
                    look(plan, row)
                self.assertIs(type(caught.exception), NoRow)
                self.assertEqual(caught.exception.what, row)

    def test_kinds_of_the_plan(self):
        self.fits(
            PLAN,
            ("kind", "ware", "ax", 3, ("red", 4)), ("kind", "ware", "ax", -3, (0, "4")),
            ("kind", "shop", "7", 0, ("york",)), ("kind", "hand", "ann", 10 ** 59, ()),
        )
        self.fits(ONE, ("kind", "ware", "ax", 1, ()))
        self.fits(FULL, ("kind", "aaaaaaaa", "k", 1, (1, 2, 3, 4, 5)), ("kind", "d", "k", 1, ("a", "a", "a", "a", "a")))

    def test_facts_of_the_plan(self):
        self.fits(
            PLAN,
            ("fact", "f1", 3, ("ax", "7", "ann"), (5, -2)), ("fact", "f1", -10 ** 59, ("a", "a", "a"), (0, 10 ** 59)),
        )
        self.fits(ONE, ("fact", "f1", 3, ("ax",), ()))
        self.fits(FULL, ("fact", "f1", 3, ("a", "b", "c", "d"), (1, 2, 3, 4)))

    def test_forgets(self):
        for plan in (PLAN, ONE, FULL):
            self.fits(plan, ("forget", "f1"), ("forget", "ware"), ("forget", "abcdefghijkl"))

    def test_a_dimension_that_the_plan_has_not(self):
        self.refused(
            PLAN,
            ("kind", "till", "ax", 3, ("red", 4)), ("kind", "wares", "ax", 3, ("red", 4)),
            ("kind", "", "ax", 3, ("red", 4)), ("kind", "", "ax", 3, ()), ("kind", "till", "ax", 3, ()),
            ("kind", "tint", "ax", 3, ("red",)), ("kind", "coins", "ax", 3, ()),
        )
        self.refused(ONE, ("kind", "hand", "ax", 3, ()))

    def test_more_or_fewer_values(self):
        self.refused(
            PLAN,
            ("kind", "ware", "ax", 3, ("red",)), ("kind", "ware", "ax", 3, ("red", 4, 4)), ("kind", "ware", "ax", 3, ()),
            ("kind", "shop", "ax", 3, ()), ("kind", "shop", "ax", 3, ("york", "bath")),
            ("kind", "hand", "ann", 3, ("red",)),
        )
        self.refused(FULL, ("kind", "c", "k", 1, (1, 2, 3, 4)), ("kind", "c", "k", 1, (1, 2, 3, 4, 5, 6)))

    def test_more_or_fewer_keys(self):
        self.refused(
            PLAN,
            ("fact", "f1", 3, ("ax", "7"), (5, 2)), ("fact", "f1", 3, ("ax", "7", "ann", "b"), (5, 2)),
            ("fact", "f1", 3, (), (5, 2)),
        )
        self.refused(ONE, ("fact", "f1", 3, (), ()), ("fact", "f1", 3, ("ax", "ax"), ()))

    def test_more_or_fewer_numbers(self):
        self.refused(
            PLAN,
            ("fact", "f1", 3, ("ax", "7", "ann"), (5,)), ("fact", "f1", 3, ("ax", "7", "ann"), (5, 2, 0)),
            ("fact", "f1", 3, ("ax", "7", "ann"), ()),
        )
        self.refused(ONE, ("fact", "f1", 3, ("ax",), (0,)))

    def test_keys_and_numbers_that_are_as_many_only_together(self):
        self.refused(PLAN, ("fact", "f1", 3, ("ax", "7"), (5, 2, 0)), ("fact", "f1", 3, ("ax", "7", "ann", "b"), (5,)))

    def test_no_limit_of_texts_and_numbers_is_a_fault(self):
        self.fits(
            PLAN,
            ("kind", "ware", "abcdefghijklm", 10 ** 61, ("abcdefghijklmn", 10 ** 61)),
            ("fact", "abcdefghijklm", -10 ** 61, ("abcdefghijklm", "b", "c"), (10 ** 61, -10 ** 61)),
        )

    def test_by_names(self):
        self.assertIsNone(look(plan=PLAN, row=("forget", "f1")))
        self.assertIsNone(look(row=("kind", "hand", "ann", 1, ()), plan=PLAN))
        self.assertRaises(NoRow, look, row=("kind", "till", "ann", 1, ()), plan=PLAN)

    def test_looking_leaves_the_plan_as_it_was(self):
        plan = Plan([("ware", (("tint", "day"),))], ["coins"])
        self.fits(plan, ("kind", "ware", "ax", 1, ("red",)))
        self.refused(plan, ("kind", "shop", "ax", 1, ("red",)))
        self.assertEqual(plan, Plan([("ware", (("tint", "day"),))], ["coins"]))


if __name__ == "__main__":
    unittest.main()
