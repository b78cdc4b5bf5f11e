"""[2], [5]: plans, what they tell, when they are equal and when refused."""

import unittest

from kindsofday.errors import NoPlan
from kindsofday.plans import Plan

FIVE = (("tint", "first"), ("price", "last"), ("shelf", "day"), ("maker", "before"), ("note", "day"))
FOUR_DIMENSIONS = [("ware", FIVE), ("shop", (("town", "day"),)), ("hand", ()), ("till", (("town", "last"),))]
FOUR_MEASURES = ["coins", "pieces", "hours", "grams"]


def fault(dimensions, *measures):
    """The word that a plan is refused with, or None."""
    try:
        Plan(dimensions, *measures)
    except NoPlan as refusal:
        return refusal.what
    return None


def called(*names):
    return [(name, ()) for name in names]


def with_attributes(*names):
    return tuple((name, "day") for name in names)


class Telling(unittest.TestCase):

    def test_one_dimension_without_attributes(self):
        plan = Plan([("ware", ())])
        self.assertEqual(plan.dimensions(), [("ware", ())])
        self.assertEqual(plan.measures(), [])

    def test_four_dimensions_and_four_measures(self):
        plan = Plan(FOUR_DIMENSIONS, FOUR_MEASURES)
        self.assertEqual(plan.dimensions(), [
            ("ware", (("tint", "first"), ("price", "last"), ("shelf", "day"), ("maker", "before"), ("note", "day"))),
            ("shop", (("town", "day"),)), ("hand", ()), ("till", (("town", "last"),)),
        ])
        self.assertEqual(plan.measures(), ["coins", "pieces", "hours", "grams"])

    def test_order_is_kept_as_handed_in(self):
        plan = Plan([("z", (("y", "day"), ("x", "first"))), ("a", ())], ["q", "b"])
        self.assertEqual(plan.dimensions(), [("z", (("y", "day"), ("x", "first"))), ("a", ())])
        self.assertEqual(plan.measures(), ["q", "b"])

    def test_measures_as_a_list_a_tuple_or_left_out(self):
        for measures in ([], ()):
            self.assertEqual(Plan(called("ware"), measures).measures(), [])
        for measures in (["coins", "hours"], ("coins", "hours")):
            told = Plan(called("ware"), measures).measures()
            self.assertIs(type(told), list)
            self.assertEqual(told, ["coins", "hours"])
        self.assertIs(type(Plan(called("ware")).measures()), list)

    def test_kinds_of_values_told(self):
        told = Plan(FOUR_DIMENSIONS).dimensions()
        self.assertIs(type(told), list)
        for part in told:
            self.assertIs(type(part), tuple)
            self.assertIs(type(part[1]), tuple)

    def test_by_places_and_by_names(self):
        placed = Plan(FOUR_DIMENSIONS, FOUR_MEASURES)
        for named in (
            Plan(dimensions=FOUR_DIMENSIONS, measures=FOUR_MEASURES),
            Plan(measures=FOUR_MEASURES, dimensions=FOUR_DIMENSIONS),
            Plan(FOUR_DIMENSIONS, measures=FOUR_MEASURES),
        ):
            self.assertEqual(named.dimensions(), placed.dimensions())
            self.assertEqual(named.measures(), placed.measures())
        self.assertEqual(Plan(dimensions=called("ware")).measures(), [])


class Owning(unittest.TestCase):

    def test_told_lists_are_new_each_time(self):
        plan = Plan(FOUR_DIMENSIONS, FOUR_MEASURES)
        self.assertIsNot(plan.dimensions(), plan.dimensions())
        self.assertIsNot(plan.measures(), plan.measures())

    def test_changing_told_lists_changes_nothing(self):
        plan = Plan(FOUR_DIMENSIONS, FOUR_MEASURES)
        plan.dimensions().clear()
        plan.measures().append("more")
        self.assertEqual(plan.dimensions(), FOUR_DIMENSIONS)
        self.assertEqual(plan.measures(), FOUR_MEASURES)
        self.assertEqual(plan, Plan(FOUR_DIMENSIONS, FOUR_MEASURES))

    def test_changing_what_was_handed_in_changes_nothing(self):
        dimensions, measures = called("ware", "shop"), ["coins"]
        plan = Plan(dimensions, measures)
        dimensions.append(("hand", ()))
        dimensions[0] = ("other", ())
        measures[0] = "hours"
        self.assertEqual(plan.dimensions(), called("ware", "shop"))
        self.assertEqual(plan.measures(), ["coins"])

    def test_what_is_handed_in_stays_as_it_was(self):
        dimensions, measures = list(FOUR_DIMENSIONS), list(FOUR_MEASURES)
        Plan(dimensions, measures)
        self.assertEqual((dimensions, measures), (FOUR_DIMENSIONS, FOUR_MEASURES))
        wrong = called("ware", "ware")
        self.assertEqual(fault(wrong, measures), "dimensions")
        self.assertEqual((wrong, measures), (called("ware", "ware"), FOUR_MEASURES))

    def test_plans_share_nothing(self):
        one, two = Plan(called("ware")), Plan(called("ware"))
        one.measures().append("coins")
        self.assertEqual(two.measures(), [])
        self.assertEqual(Plan(called("ware")).measures(), [])


class Names(unittest.TestCase):

    NO_NAMES = (
        "", "abcdefghi", "abcdefghijklmnop", "Ware", "WARE", "warE", "war3", "3", "wa re", " ware", "ware ", " ",
        "wa-re", "wa_re", "_", "wa.re", "wa:re", "wa;re", "w\u00e4re", "\u00df", "\u0430", "ware\n", "'ware'", "~", "`", "{",
    )
    GOOD_NAMES = ("a", "z", "ab", "abcdefgh", "qrstuvwx", "yz", "ijklmnop", "kind", "fact", "forget", "first", "dim")

    def test_a_name_that_is_none(self):
        for name in self.NO_NAMES:
            with self.subTest(name=name):
                self.assertEqual(fault(called(name)), "dimensions")
                self.assertEqual(fault(called("ware", "shop", name)), "dimensions")
                self.assertEqual(fault([("ware", with_attributes(name))]), "attributes")
                self.assertEqual(fault([("ware", ()), ("shop", with_attributes("town", name))]), "attributes")
                self.assertEqual(fault(called("ware"), [name]), "measures")
                self.assertEqual(fault(called("ware"), ("coins", "hours", name)), "measures")

    def test_a_name_of_one_to_eight_small_letters(self):
        for name in self.GOOD_NAMES:
            with self.subTest(name=name):
                plan = Plan([(name, with_attributes(name))], [name])
                self.assertEqual(plan.dimensions(), [(name, ((name, "day"),))])
                self.assertEqual(plan.measures(), [name])


class Faults(unittest.TestCase):

    def test_no_dimension(self):
        self.assertEqual(fault([]), "dimensions")
        self.assertEqual(fault([], ["coins"]), "dimensions")

    def test_as_many_dimensions_as_may_be(self):
        self.assertIsNone(fault(called("a", "b", "c", "d")))
        self.assertEqual(fault(called("a", "b", "c", "d", "e")), "dimensions")
        self.assertEqual(fault(called("a", "b", "c", "d", "e", "f")), "dimensions")

    def test_as_many_attributes_as_may_be(self):
        five, six = with_attributes(*"abcde"), with_attributes(*"abcdef")
        self.assertIsNone(fault([(name, five) for name in "abcd"]))
        self.assertEqual(fault([("ware", six)]), "attributes")
        self.assertEqual(fault([("ware", five), ("shop", six)]), "attributes")
        self.assertEqual(fault([("ware", six), ("shop", five)]), "attributes")

    def test_as_many_measures_as_may_be(self):
        self.assertIsNone(fault(called("ware"), list("abcd")))
        self.assertEqual(fault(called("ware"), list("abcde")), "measures")
        self.assertEqual(fault(called("ware"), tuple("abcde")), "measures")

    def test_a_name_twice(self):
        self.assertEqual(fault(called("ware", "ware")), "dimensions")
        self.assertEqual(fault(called("ware", "shop", "ware")), "dimensions")
        self.assertEqual(fault([("ware", (("tint", "day"), ("tint", "day")))]), "attributes")
        self.assertEqual(fault([("ware", (("tint", "day"), ("size", "last"), ("tint", "first")))]), "attributes")
        self.assertEqual(fault([("ware", ()), ("shop", with_attributes("town", "town"))]), "attributes")
        self.assertEqual(fault(called("ware"), ["coins", "coins"]), "measures")
        self.assertEqual(fault(called("ware"), ("coins", "hours", "coins")), "measures")

    def test_one_name_in_several_parts_is_no_fault(self):
        dimensions = [("ware", with_attributes("ware", "name")), ("name", with_attributes("name", "ware"))]
        self.assertIsNone(fault(dimensions, ["ware", "name"]))

    def test_each_way_is_no_fault(self):
        for way in ("first", "last", "day", "before"):
            self.assertEqual(Plan([("ware", (("tint", way),))]).dimensions(), [("ware", (("tint", way),))])

    def test_the_first_faulty_part_is_told(self):
        bad_attributes = (
            with_attributes(*"abcdef"), with_attributes(""), with_attributes("Tint"), with_attributes("a", "a"),
        )
        bad_measures = (list("abcde"), [""], ["Coins"], ["a", "a"])
        for attributes in bad_attributes:
            for measures in bad_measures:
                with self.subTest(attributes=attributes, measures=measures):
                    self.assertEqual(fault([("ware", attributes)], measures), "attributes")
                    self.assertEqual(fault([("Ware", attributes)], measures), "dimensions")
                    self.assertEqual(fault([("ware", ())], measures), "measures")

    def test_all_dimensions_are_looked_at_ahead_of_attributes(self):
        faulty = with_attributes("a", "a")
        self.assertEqual(fault([("ware", faulty), ("", ())]), "dimensions")
        self.assertEqual(fault([("ware", faulty), ("ware", ())]), "dimensions")
        self.assertEqual(fault([("a", faulty), ("b", ()), ("c", ()), ("d", ()), ("e", ())]), "dimensions")

    def test_all_attributes_are_looked_at_ahead_of_measures(self):
        self.assertEqual(fault([("a", ()), ("b", ()), ("c", with_attributes(""))], [""]), "attributes")

    def test_the_faults_of_dimensions_ahead_of_measures(self):
        self.assertEqual(fault([], [""]), "dimensions")
        self.assertEqual(fault(called("a", "a"), ["a", "a"]), "dimensions")


class Equality(unittest.TestCase):

    def plans_apart(self):
        return [
            Plan([("ware", (("tint", "day"), ("size", "last"))), ("shop", ())], ["coins", "hours"]),
            Plan([("wares", (("tint", "day"), ("size", "last"))), ("shop", ())], ["coins", "hours"]),
            Plan([("ware", (("tints", "day"), ("size", "last"))), ("shop", ())], ["coins", "hours"]),
            Plan([("ware", (("tint", "before"), ("size", "last"))), ("shop", ())], ["coins", "hours"]),
            Plan([("ware", (("tint", "day"), ("size", "first"))), ("shop", ())], ["coins", "hours"]),
            Plan([("ware", (("size", "last"), ("tint", "day"))), ("shop", ())], ["coins", "hours"]),
            Plan([("ware", (("tint", "day"),)), ("shop", ())], ["coins", "hours"]),
            Plan([("shop", ()), ("ware", (("tint", "day"), ("size", "last")))], ["coins", "hours"]),
            Plan([("ware", (("tint", "day"), ("size", "last")))], ["coins", "hours"]),
            Plan([("ware", (("tint", "day"), ("size", "last"))), ("shop", ())], ["hours", "coins"]),
            Plan([("ware", (("tint", "day"), ("size", "last"))), ("shop", ())], ["coins"]),
            Plan([("ware", (("tint", "day"), ("size", "last"))), ("shop", ())], ["coins", "grams"]),
            Plan([("ware", (("tint", "day"), ("size", "last"))), ("shop", ())]),
        ]

    def test_equal_just_where_both_parts_are(self):
        lefts, rights = self.plans_apart(), self.plans_apart()
        for at, left in enumerate(lefts):
            for place, right in enumerate(rights):
                with self.subTest(at=at, place=place):
                    self.assertIs(left == right, at == place)
                    self.assertIs(left != right, at != place)

    def test_equal_to_itself(self):
        for plan in self.plans_apart():
            self.assertIs(plan == plan, True)
            self.assertIs(plan != plan, False)

    def test_measures_as_a_list_or_a_tuple_are_alike(self):
        self.assertTrue(Plan(called("ware"), ["coins"]) == Plan(called("ware"), ("coins",)))
        self.assertTrue(Plan(called("ware"), []) == Plan(called("ware")))
        self.assertFalse(Plan(called("ware"), []) != Plan(called("ware"), ()))

    def test_unlike_what_is_no_plan(self):
        plan = Plan(called("ware"))
        for other in (None, 0, "", "ware", [("ware", ())], ([("ware", ())], [])):
            self.assertIs(plan == other, False)
            self.assertIs(plan != other, True)


if __name__ == "__main__":
    unittest.main()
