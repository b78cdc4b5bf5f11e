"""[6], [9], [10], [11], [12]: what a house does with rows, and what it tells."""

import unittest

from kindsofday.errors import NoFact, NoRow, NoThing
from kindsofday.houses import House
from kindsofday.plans import Plan
from tests.refusing import Refusing

WARE = Plan([("ware", (("tint", "day"),))], ["coins"])
FULL = Plan(
    [("ware", (("tint", "day"), ("price", "last"))), ("shop", (("town", "before"), ("size", "first"))), ("hand", ())],
    ["coins", "hours"],
)
FAR = 10 ** 60 - 1


def kind(key, day, *values):
    return ("kind", "ware", key, day, values)


def fact(name, day, key, coins=1):
    return ("fact", name, day, (key,), (coins,))


def full_fact(name, day, ware="ax", shop="york", hand="ann", numbers=(1, 2)):
    return ("fact", name, day, (ware, shop, hand), numbers)


def told(plan, *rows):
    """A house that was told these rows."""
    house = House(plan)
    for row in rows:
        house.tell(row)
    return house


def numbers(house, key, dimension="ware"):
    return [version[0] for version in house.versions(dimension, key)]


def all_of(house):
    """All that a house tells."""
    versions = [
        (dimension, key, house.versions(dimension, key))
        for dimension, attributes in house.plan.dimensions() for key in house.keys_of(dimension)
    ]
    return versions, house.facts(), house.rows(), len(house), house.plain(), house.watches(), house.news()


class Kinds(unittest.TestCase):

    def test_the_first_kind_brings_two_versions(self):
        house = House(WARE)
        self.assertEqual(house.tell(kind("ax", 5, "red")), ("kind", 2, 0, 0))
        self.assertEqual(house.versions("ware", "ax"), [(1, None, 5, (None,)), (2, 5, None, ("red",))])

    def test_a_later_kind_with_another_value_brings_one(self):
        house = told(WARE, kind("ax", 5, "red"))
        self.assertEqual(house.tell(kind("ax", 9, "blue")), ("kind", 1, 0, 0))
        self.assertEqual(
            house.versions("ware", "ax"), [(1, None, 5, (None,)), (2, 5, 9, ("red",)), (3, 9, None, ("blue",))],
        )

    def test_a_later_kind_with_the_same_value_brings_none(self):
        house = told(WARE, kind("ax", 5, "red"))
        self.assertEqual(house.tell(kind("ax", 9, "red")), ("kind", 0, 0, 0))
        self.assertEqual(house.versions("ware", "ax"), [(1, None, 5, (None,)), (2, 5, None, ("red",))])

    def test_an_early_kind_with_another_value(self):
        house = told(WARE, kind("ax", 5, "red"))
        self.assertEqual(house.tell(kind("ax", -2, "blue")), ("kind", 1, 0, 0))
        self.assertEqual(
            house.versions("ware", "ax"), [(1, None, -2, (None,)), (3, -2, 5, ("blue",)), (2, 5, None, ("red",))],
        )

    def test_an_early_kind_with_the_same_value_takes_the_cut(self):
        house = told(WARE, kind("ax", 5, "red"))
        self.assertEqual(house.tell(kind("ax", 3, "red")), ("kind", 1, 1, 0))
        self.assertEqual(house.versions("ware", "ax"), [(1, None, 3, (None,)), (3, 3, None, ("red",))])

    def test_a_kind_between_two_brings_its_own_cut_alone(self):
        house = told(WARE, kind("ax", 5, "red"), kind("ax", 9, "red"))
        self.assertEqual(house.tell(kind("ax", 7, "blue")), ("kind", 2, 0, 0))
        self.assertEqual(house.versions("ware", "ax"), [
            (1, None, 5, (None,)), (2, 5, 7, ("red",)), (3, 7, 9, ("blue",)), (4, 9, None, ("red",)),
        ])

    def test_a_kind_between_two_takes_the_later_ones_cut(self):
        house = told(WARE, kind("ax", 5, "red"), kind("ax", 9, "blue"))
        self.assertEqual(house.tell(kind("ax", 7, "blue")), ("kind", 1, 1, 0))
        self.assertEqual(
            house.versions("ware", "ax"), [(1, None, 5, (None,)), (2, 5, 7, ("red",)), (4, 7, None, ("blue",))],
        )

    def test_a_kind_in_the_place_of_one_with_the_same_values(self):
        house = told(WARE, kind("ax", 5, "red"), fact("f", 6, "ax"))
        self.assertEqual(house.tell(kind("ax", 5, "red")), ("kind", 0, 0, 0))
        self.assertEqual(house.versions("ware", "ax"), [(1, None, 5, (None,)), (2, 5, None, ("red",))])
        self.assertEqual(len(house), 3)

    def test_a_kind_in_the_place_of_one_with_other_values_keeps_its_number(self):
        house = told(WARE, kind("ax", 5, "red"), fact("f", 6, "ax"))
        self.assertEqual(house.tell(kind("ax", 5, "blue")), ("kind", 0, 0, 0))
        self.assertEqual(house.versions("ware", "ax"), [(1, None, 5, (None,)), (2, 5, None, ("blue",))])

    def test_a_kind_in_the_place_of_one_takes_its_cut_and_brings_another(self):
        house = told(WARE, kind("ax", 1, "red"), kind("ax", 5, "blue"), kind("ax", 9, "blue"))
        self.assertEqual(numbers(house, "ax"), [1, 2, 3])
        self.assertEqual(house.tell(kind("ax", 5, "red")), ("kind", 1, 1, 0))
        self.assertEqual(
            house.versions("ware", "ax"), [(1, None, 1, (None,)), (2, 1, 9, ("red",)), (4, 9, None, ("blue",))],
        )

    def test_kinds_of_other_things_and_dimensions_stand_apart(self):
        plan = Plan([("ware", (("tint", "day"),)), ("shop", (("town", "day"),))])
        house = told(plan, ("kind", "ware", "ax", 5, ("red",)))
        self.assertEqual(house.tell(("kind", "shop", "ax", 5, ("york",))), ("kind", 2, 0, 0))
        self.assertEqual(house.tell(("kind", "ware", "bo", 5, ("blue",))), ("kind", 2, 0, 0))
        self.assertEqual(house.versions("ware", "ax"), [(1, None, 5, (None,)), (2, 5, None, ("red",))])
        self.assertEqual(house.versions("shop", "ax"), [(3, None, 5, (None,)), (4, 5, None, ("york",))])
        self.assertEqual(house.versions("ware", "bo"), [(5, None, 5, (None,)), (6, 5, None, ("blue",))])

    def test_other_ways_change_values_and_leave_numbers(self):
        house = told(FULL, ("kind", "shop", "york", 5, ("north", 1)))
        self.assertEqual(house.tell(("kind", "shop", "york", 8, ("south", 2))), ("kind", 0, 0, 0))
        pair = ("south", "north")
        self.assertEqual(house.versions("shop", "york"), [(1, None, 5, (pair, 1)), (2, 5, None, (pair, 1))])
        self.assertEqual(house.tell(("kind", "shop", "york", 2, ("east", 3))), ("kind", 1, 1, 0))
        self.assertEqual(house.versions("shop", "york"), [(1, None, 2, (pair, 3)), (3, 2, None, (pair, 3))])

    def test_a_dimension_without_attributes(self):
        house = House(FULL)
        self.assertEqual(house.tell(("kind", "hand", "ann", 5, ())), ("kind", 2, 0, 0))
        self.assertEqual(house.tell(("kind", "hand", "ann", 7, ())), ("kind", 0, 0, 0))
        self.assertEqual(house.tell(("kind", "hand", "ann", 3, ())), ("kind", 1, 1, 0))
        self.assertEqual(house.versions("hand", "ann"), [(1, None, 3, ()), (3, 3, None, ())])

    def test_far_days(self):
        house = told(WARE, kind("ax", FAR, "end"), kind("ax", -FAR, "begin"), kind("ax", 0, FAR))
        self.assertEqual(house.versions("ware", "ax"), [
            (1, None, -FAR, (None,)), (3, -FAR, 0, ("begin",)), (4, 0, FAR, (FAR,)), (2, FAR, None, ("end",)),
        ])


class Leading(unittest.TestCase):

    def test_facts_ahead_of_the_kinds_of_their_things(self):
        house = told(WARE, fact("f", 3, "ax"), fact("g", 5, "ax"), fact("h", 8, "ax"), fact("i", 8, "bo"))
        self.assertEqual(house.tell(kind("ax", 5, "red")), ("kind", 1, 0, 2))
        self.assertEqual([row[4] for row in house.facts()], [(1,), (3,), (3,), (2,)])

    def test_a_day_belongs_to_the_version_that_begins_on_it(self):
        house = told(WARE, kind("ax", 5, "red"), kind("ax", 7, "blue"))
        for day, number in ((-FAR, 1), (4, 1), (5, 2), (6, 2), (7, 3), (FAR, 3)):
            self.assertEqual(house.tell(fact("f", day, "ax")), ("fact", 0, 0, (number,)))

    def test_late_kinds_lead_anew_just_the_facts_of_their_days(self):
        house = told(WARE, kind("ax", 0, "red"), *[fact(f"f{day}", day, "ax") for day in range(10)])
        self.assertEqual(house.tell(kind("ax", 6, "blue")), ("kind", 1, 0, 4))
        self.assertEqual(house.tell(kind("ax", 4, "blue")), ("kind", 1, 1, 6))
        self.assertEqual(house.tell(kind("ax", 4, "red")), ("kind", 1, 1, 6))
        self.assertEqual(house.tell(kind("ax", 9, "blue")), ("kind", 0, 0, 0))
        self.assertEqual(house.tell(kind("ax", 6, "red")), ("kind", 1, 1, 4))
        self.assertEqual([row[4][0] for row in house.facts()], [2] * 9 + [6])

    def test_only_facts_of_the_thing_are_led_anew(self):
        plan = Plan([("ware", (("tint", "day"),)), ("shop", (("tint", "day"),))])
        house = told(
            plan, ("fact", "f", 5, ("ax", "bo"), ()), ("fact", "g", 5, ("bo", "ax"), ()),
            ("fact", "h", 5, ("ax", "ax"), ()),
        )
        self.assertEqual(house.tell(("kind", "ware", "ax", 4, ("red",))), ("kind", 1, 0, 2))
        self.assertEqual(house.tell(("kind", "shop", "ax", 4, ("red",))), ("kind", 1, 0, 2))
        self.assertEqual(house.tell(("kind", "shop", "cy", 4, ("red",))), ("kind", 2, 0, 0))

    def test_facts_name_a_version_of_each_dimension(self):
        house = told(FULL, ("kind", "ware", "ax", 5, ("red", 1)), ("kind", "shop", "york", 5, ("north", 1)))
        self.assertEqual(house.tell(full_fact("f", 4)), ("fact", 1, 0, (1, 3, 5)))
        self.assertEqual(house.tell(full_fact("g", 5)), ("fact", 0, 0, (2, 4, 5)))
        self.assertEqual(house.facts(), [
            ("f", 4, ("ax", "york", "ann"), (1, 2), (1, 3, 5)), ("g", 5, ("ax", "york", "ann"), (1, 2), (2, 4, 5)),
        ])


class Facts(unittest.TestCase):

    def test_unknown_things_come_with_one_version_each(self):
        house = House(FULL)
        self.assertEqual(house.tell(full_fact("f", 4)), ("fact", 3, 0, (1, 2, 3)))
        self.assertEqual(house.versions("ware", "ax"), [(1, None, None, (None, None))])
        self.assertEqual(house.versions("shop", "york"), [(2, None, None, ((None, None), None))])
        self.assertEqual(house.versions("hand", "ann"), [(3, None, None, ())])

    def test_known_things_bring_none(self):
        house = told(FULL, full_fact("f", 4))
        self.assertEqual(house.tell(full_fact("g", 4)), ("fact", 0, 0, (1, 2, 3)))
        self.assertEqual(house.tell(full_fact("h", 4, shop="bath")), ("fact", 1, 0, (1, 4, 3)))

    def test_in_the_place_of_one_with_the_same_things(self):
        house = told(FULL, full_fact("f", 4))
        self.assertEqual(house.tell(full_fact("f", 9, numbers=(7, 8))), ("fact", 0, 0, (1, 2, 3)))
        self.assertEqual(house.facts(), [("f", 9, ("ax", "york", "ann"), (7, 8), (1, 2, 3))])

    def test_in_the_place_of_one_with_other_things(self):
        house = told(FULL, full_fact("f", 4))
        self.assertEqual(house.tell(full_fact("f", 4, ware="bo", hand="bob")), ("fact", 2, 2, (4, 2, 5)))
        self.assertEqual(house.keys_of("ware"), ["bo"])
        self.assertEqual(house.keys_of("shop"), ["york"])
        self.assertEqual(house.keys_of("hand"), ["bob"])

    def test_in_the_place_of_one_whose_things_are_known_otherwise(self):
        house = told(FULL, ("kind", "ware", "ax", 1, ("red", 1)), full_fact("f", 4), full_fact("g", 4, ware="bo", hand="bob"))
        self.assertEqual(house.tell(full_fact("f", 4, ware="cy", shop="bath", hand="cid")), ("fact", 3, 1, (7, 8, 9)))
        self.assertEqual(house.keys_of("ware"), ["ax", "bo", "cy"])
        self.assertEqual(house.keys_of("shop"), ["bath", "york"])
        self.assertEqual(house.keys_of("hand"), ["bob", "cid"])

    def test_keys_that_change_places(self):
        plan = Plan([("ware", ()), ("shop", ())])
        house = told(plan, ("fact", "f", 1, ("ax", "bo"), ()))
        self.assertEqual(house.tell(("fact", "f", 1, ("bo", "ax"), ())), ("fact", 2, 2, (3, 4)))
        self.assertEqual(house.keys_of("ware"), ["bo"])

    def test_forgetting(self):
        house = told(FULL, full_fact("f", 4), full_fact("g", 4, ware="bo"), ("kind", "hand", "ann", 3, ()))
        self.assertEqual(house.tell(("forget", "f")), ("forget", 1))
        self.assertEqual(house.keys_of("ware"), ["bo"])
        self.assertEqual(house.tell(("forget", "g")), ("forget", 2))
        self.assertEqual(house.keys_of("ware"), [])
        self.assertEqual(house.keys_of("shop"), [])
        self.assertEqual(house.keys_of("hand"), ["ann"])
        self.assertEqual(house.facts(), [])

    def test_forgotten_and_told_again(self):
        house = told(WARE, fact("f", 4, "ax"), ("forget", "f"))
        self.assertEqual(house.tell(fact("f", 5, "ax")), ("fact", 1, 0, (2,)))
        self.assertEqual(house.facts(), [("f", 5, ("ax",), (1,), (2,))])
        self.assertEqual(house.tell(("forget", "f")), ("forget", 1))

    def test_what_is_forgotten_is_in_nobodys_place(self):
        house = told(WARE, fact("f", 4, "ax"), fact("g", 4, "ax"), ("forget", "f"))
        self.assertEqual(house.tell(fact("f", 4, "bo")), ("fact", 1, 0, (2,)))
        self.assertEqual(house.keys_of("ware"), ["ax", "bo"])

    def test_facts_are_sorted_by_name(self):
        house = told(WARE, fact("b", 1, "ax"), fact("10", 2, "ax"), fact("a", 3, "ax"), fact("9", 4, "ax"), fact("ab", 0, "ax"))
        self.assertEqual([row[0] for row in house.facts()], ["10", "9", "a", "ab", "b"])

    def test_facts_without_measures(self):
        house = House(Plan([("ware", ())]))
        self.assertEqual(house.tell(("fact", "f", 1, ("ax",), ())), ("fact", 1, 0, (1,)))
        self.assertEqual(house.facts(), [("f", 1, ("ax",), (), (1,))])


class Numbers(unittest.TestCase):

    def test_the_first_version_keeps_its_number_when_kinds_come(self):
        house = told(WARE, fact("f", 4, "ax"), kind("ax", 9, "red"))
        self.assertEqual(numbers(house, "ax"), [1, 2])
        house.tell(kind("ax", 2, "blue"))
        self.assertEqual(numbers(house, "ax"), [1, 3, 2])

    def test_new_ones_are_given_by_rising_days(self):
        house = told(WARE, kind("ax", 1, "red"), kind("ax", 9, "red"), kind("ax", 5, "blue"))
        self.assertEqual(numbers(house, "ax"), [1, 2, 3, 4])
        self.assertEqual(house.tell(kind("ax", 1, "green")), ("kind", 0, 0, 0))
        self.assertEqual(numbers(house, "ax"), [1, 2, 3, 4])

    def test_new_ones_are_given_dimension_by_dimension(self):
        plan = Plan([("zoo", ()), ("ape", ()), ("man", ())])
        house = told(plan, ("fact", "f", 1, ("b", "c", "a"), ()))
        self.assertEqual([numbers(house, key, name) for name, key in (("zoo", "b"), ("ape", "c"), ("man", "a"))], [[1], [2], [3]])

    def test_a_lost_number_is_never_given_again(self):
        house = told(WARE, kind("ax", 5, "red"), kind("ax", 3, "red"))
        self.assertEqual(numbers(house, "ax"), [1, 3])
        house.tell(kind("ax", 3, "blue"))
        self.assertEqual(numbers(house, "ax"), [1, 3, 4])

    def test_the_last_number_that_was_lost_is_not_given_again(self):
        house = told(WARE, fact("f", 1, "ax"), fact("f", 1, "bo"), fact("f", 1, "cy"))
        self.assertEqual(numbers(house, "cy"), [3])
        house.tell(("forget", "f"))
        house.tell(fact("f", 1, "cy"))
        self.assertEqual(numbers(house, "cy"), [4])

    def test_a_thing_with_kinds_keeps_its_versions_without_facts(self):
        house = told(WARE, kind("ax", 5, "red"), fact("f", 6, "ax"))
        self.assertEqual(house.tell(("forget", "f")), ("forget", 0))
        self.assertEqual(numbers(house, "ax"), [1, 2])

    def test_refused_rows_take_no_numbers(self):
        house = House(WARE)
        for row in (("kind", "shop", "ax", 1, ()), kind("ax", 1), ("fact", "f", 1, (), (1,)), ("forget", "f")):
            self.assertRaises((NoRow, NoFact), house.tell, row)
        house.tell(fact("f", 1, "ax"))
        self.assertEqual(numbers(house, "ax"), [1])

    def test_houses_number_apart(self):
        told(WARE, kind("ax", 1, "red"), kind("ax", 2, "blue"))
        self.assertEqual(numbers(told(WARE, kind("bo", 1, "red")), "bo"), [1, 2])


class Refusals(Refusing, unittest.TestCase):

    def house(self):
        house = told(
            FULL, ("kind", "ware", "ax", 5, ("red", 3)), full_fact("f", 6), full_fact("g", 2, ware="bo"),
            ("kind", "hand", "bob", 1, ()),
        )
        house.watch("all", (("ware", "tint"),), measure="coins")
        house.tell(full_fact("h", 7))
        return house

    def refused_and_nothing_changed(self, refusal, what, row):
        house = self.house()
        before, sums = all_of(house), house.sums("all")
        with self.subTest(row=row):
            self.refused(refusal, what, house.tell, row)
            self.assertEqual(all_of(house), before)
            self.assertEqual(house.sums("all"), sums)
            self.assertTrue(house == self.house())

    def test_rows_that_do_not_fit_the_plan(self):
        for row in (
            ("kind", "till", "ax", 5, ()), ("kind", "", "ax", 5, ()), ("kind", "till", "ax", 5, ("red", 3)),
            ("kind", "ware", "ax", 5, ("red",)), ("kind", "ware", "ax", 5, ("red", 3, 3)), ("kind", "ware", "ax", 5, ()),
            ("kind", "hand", "ann", 5, ("red",)), ("fact", "f", 6, ("ax", "york"), (1, 2)),
            ("fact", "f", 6, ("ax", "york", "ann", "b"), (1, 2)), ("fact", "f", 6, ("ax", "york", "ann"), (1,)),
            ("fact", "f", 6, ("ax", "york", "ann"), (1, 2, 3)), ("fact", "new", 6, ("cy", "york"), (1, 2, 3)),
            ("fact", "new", 6, (), ()),
        ):
            self.refused_and_nothing_changed(NoRow, row, row)

    def test_facts_that_are_not_there(self):
        for name in ("x", "ax", "", "ware", "ff"):
            self.refused_and_nothing_changed(NoFact, name, ("forget", name))

    def test_forgotten_facts_are_not_there(self):
        house = self.house()
        house.tell(("forget", "f"))
        self.refused(NoFact, "f", house.tell, ("forget", "f"))
        self.assertEqual(len(house), 6)

    def test_things_that_are_not_known(self):
        house = self.house()
        for dimension, key in (
            ("ware", "cy"), ("ware", "york"), ("ware", ""), ("till", "ax"), ("", "ax"), ("shop", "ax"), ("tint", "ax"),
            ("hand", "cid"),
        ):
            self.refused(NoThing, (dimension, key), house.versions, dimension, key)
        self.refused(NoThing, ("ware", "ax"), House(FULL).versions, "ware", "ax")

    def test_dimensions_that_the_plan_has_not(self):
        for house in (self.house(), House(FULL)):
            for dimension in ("till", "", "wares", "tint", "coins"):
                self.refused(NoThing, (dimension, None), house.keys_of, dimension)

    def test_things_that_are_known_no_more(self):
        house = told(WARE, fact("f", 1, "ax"), fact("f", 1, "bo"))
        self.refused(NoThing, ("ware", "ax"), house.versions, "ware", "ax")
        house.tell(("forget", "f"))
        self.refused(NoThing, ("ware", "bo"), house.versions, "ware", "bo")


class Telling(unittest.TestCase):

    def test_keys_are_sorted(self):
        house = told(WARE, fact("f", 1, "bo"), kind("b", 1, "red"), kind("10", 1, "red"), fact("g", 1, "9"), fact("h", 1, "ab"))
        self.assertEqual(house.keys_of("ware"), ["10", "9", "ab", "b", "bo"])
        self.assertEqual(House(FULL).keys_of("hand"), [])

    def test_rows_are_those_that_were_not_refused_in_order(self):
        rows = [kind("ax", 5, "red"), fact("f", 1, "ax"), kind("ax", 5, "red"), ("forget", "f"), fact("f", 1, "ax")]
        house = House(WARE)
        self.assertEqual((house.rows(), len(house)), ([], 0))
        for many, row in enumerate(rows, 1):
            house.tell(row)
            self.assertRaises(NoFact, house.tell, ("forget", "none"))
            self.assertRaises(NoRow, house.tell, kind("ax", 5))
            self.assertEqual((house.rows(), len(house)), (rows[:many], many))

    def test_kinds_of_values_told(self):
        house = told(FULL, full_fact("f", 1), ("kind", "ware", "ax", 1, ("red", 2)))
        for row in (full_fact("f", 1), ("kind", "ware", "ax", 1, ("red", 2)), ("forget", "f")):
            answer = house.tell(row)
            self.assertIs(type(answer), tuple)
            self.assertEqual(answer[0], row[0])
        house.tell(full_fact("f", 1))
        self.assertIs(type(house.tell(full_fact("f", 1))[3]), tuple)
        for many in (house.versions("ware", "ax"), house.facts(), house.rows()):
            self.assertIs(type(many), list)
            for one in many:
                self.assertIs(type(one), tuple)
        self.assertIs(type(house.facts()[0][4]), tuple)
        self.assertIs(type(house.keys_of("ware")), list)
        self.assertIs(type(len(house)), int)

    def test_by_names(self):
        house = House(plan=WARE)
        self.assertEqual(house.tell(row=kind("ax", 1, "red")), ("kind", 2, 0, 0))
        self.assertEqual(house.versions(key="ax", dimension="ware"), house.versions("ware", "ax"))
        self.assertEqual(house.keys_of(dimension="ware"), ["ax"])

    def test_seventy_rows_and_some_more(self):
        house = House(WARE)
        for day in range(80):
            self.assertEqual(house.tell(kind("ax", -day, day)), ("kind", 2 if day == 0 else 1, 0, 0))
        self.assertEqual(numbers(house, "ax"), [1] + list(range(81, 1, -1)))

    def test_four_dimensions_and_far_numbers(self):
        plan = Plan([(name, ()) for name in ("a", "b", "c", "d")], ["w", "x", "y", "z"])
        row = ("fact", "abcdefghij12", -FAR, ("k", "k", "k", "k"), (FAR, -FAR, 0, 1))
        house = House(plan)
        self.assertEqual(house.tell(row), ("fact", 4, 0, (1, 2, 3, 4)))
        self.assertEqual(house.facts(), [(*row[1:], (1, 2, 3, 4))])


class Equality(unittest.TestCase):

    def houses_apart(self):
        ax, bo = kind("ax", 5, "red"), kind("bo", 5, "red")
        other = Plan([("ware", (("tint", "last"),))], ["coins"])
        return [
            told(WARE), told(other), told(WARE, ax), told(other, ax), told(WARE, ax, bo), told(WARE, kind("ax", 5, "blue")),
            told(WARE, kind("ax", 6, "red")), told(WARE, kind("ax", 5, 7)), told(WARE, kind("ax", 5, "7")),
            told(WARE, ax, kind("ax", 6, "red")), told(WARE, fact("f", 1, "ax")), told(WARE, fact("g", 1, "ax")),
            told(WARE, fact("f", 2, "ax")), told(WARE, fact("f", 1, "bo")), told(WARE, fact("f", 1, "ax", 2)),
            told(WARE, ax, fact("f", 1, "ax")), told(WARE, fact("f", 1, "ax"), fact("g", 1, "ax")),
        ]

    def test_equal_just_where_plans_kinds_and_facts_are(self):
        lefts, rights = self.houses_apart(), self.houses_apart()
        for at, left in enumerate(lefts):
            for place, right in enumerate(rights):
                with self.subTest(at=at, place=place):
                    self.assertIs(left == right, at == place)
                    self.assertIs(left != right, at != place)

    def test_order_corrections_and_forgotten_facts_do_not_count(self):
        house = told(WARE, kind("ax", 5, "red"), kind("ax", 8, "blue"), fact("f", 6, "ax"), fact("g", 9, "bo"))
        for rows in (
            (fact("g", 9, "bo"), fact("f", 6, "ax"), kind("ax", 8, "blue"), kind("ax", 5, "red")),
            (kind("ax", 5, "green"), fact("f", 1, "cy"), kind("ax", 8, "blue"), fact("h", 1, "dy"), fact("g", 9, "bo"),
             kind("ax", 5, "red"), ("forget", "h"), fact("f", 6, "ax")),
            (fact("g", 9, "bo"), ("forget", "g"), fact("g", 9, "bo"), kind("ax", 8, "blue"), kind("ax", 5, "red"),
             kind("ax", 8, "blue"), fact("f", 6, "ax")),
        ):
            other = told(WARE, *rows)
            self.assertTrue(house == other and other == house)
            self.assertFalse(house != other or other != house)
            self.assertEqual(house.plain(), other.plain())
            self.assertEqual(house.keys_of("ware"), other.keys_of("ware"))

    def test_watches_do_not_count(self):
        house, other = told(WARE, kind("ax", 5, "red")), told(WARE, kind("ax", 5, "red"))
        house.watch("w", ())
        self.assertTrue(house == other)

    def test_unlike_what_is_no_house(self):
        for other in (None, 0, [], "", WARE, ([], [])):
            self.assertIs(House(WARE) == other, False)
            self.assertIs(House(WARE) != other, True)


class Plain(unittest.TestCase):

    def test_without_rows(self):
        self.assertEqual(House(FULL).plain(), ([], []))

    def test_several_dimensions(self):
        house = told(
            FULL, full_fact("g", 6), ("kind", "shop", "york", 3, ("north", 1)), ("kind", "ware", "ax", 5, ("red", 9)),
            ("kind", "shop", "bath", 4, (7, 1)), full_fact("f", 3, ware="aa"),
        )
        pair, bath = ("north", None), (7, None)
        self.assertEqual(house.plain(), (
            [
                ("ware", "aa", [(None, None, (None, None))]),
                ("ware", "ax", [(None, 5, (None, 9)), (5, None, ("red", 9))]),
                ("shop", "bath", [(None, 4, (bath, 1)), (4, None, (bath, 1))]),
                ("shop", "york", [(None, 3, (pair, 1)), (3, None, (pair, 1))]),
                ("hand", "ann", [(None, None, ())]),
            ],
            [
                ("f", 3, ("aa", "york", "ann"), (1, 2), (None, 3, None)),
                ("g", 6, ("ax", "york", "ann"), (1, 2), (5, 3, None)),
            ],
        ))

    def test_dimensions_stand_in_the_plans_order(self):
        house = told(Plan([("b", ()), ("a", ())]), ("fact", "f", 1, ("x", "y"), ()))
        self.assertEqual([row[:2] for row in house.plain()[0]], [("b", "x"), ("a", "y")])

    def test_behind_corrections(self):
        house = told(
            WARE, kind("ax", 5, "red"), fact("f", 6, "ax"), fact("g", 6, "bo"), kind("ax", 5, "blue"), fact("f", 4, "ax", 9),
            kind("ax", 3, "blue"), ("forget", "g"),
        )
        self.assertEqual(house.plain(), (
            [("ware", "ax", [(None, 3, (None,)), (3, None, ("blue",))])], [("f", 4, ("ax",), (9,), (3,))],
        ))

    def test_kinds_of_values_told(self):
        plain = told(WARE, fact("f", 6, "ax")).plain()
        self.assertIs(type(plain), tuple)
        self.assertEqual([type(table) for table in plain], [list, list])
        self.assertEqual([type(part) for part in plain[0][0]], [str, str, list])
        self.assertIs(type(plain[1][0][4]), tuple)


class Owning(unittest.TestCase):

    def test_told_lists_are_the_askers_own(self):
        house = told(WARE, kind("ax", 5, "red"), fact("f", 6, "ax"))
        before = all_of(house)
        for many in (house.versions("ware", "ax"), house.keys_of("ware"), house.facts(), house.rows(), house.watches()):
            many.append("more")
            many.reverse()
        for table in house.plain():
            table.append("more")
        house.plain()[0][0][2].clear()
        self.assertEqual(all_of(house), before)

    def test_what_is_told_later_leaves_told_lists(self):
        house = told(WARE, kind("ax", 5, "red"), fact("f", 6, "ax"))
        asked = (house.versions("ware", "ax"), house.keys_of("ware"), house.facts(), house.rows(), house.plain())
        again = (house.versions("ware", "ax"), house.keys_of("ware"), house.facts(), house.rows(), house.plain())
        house.tell(kind("ax", 6, "blue"))
        house.tell(fact("f", 1, "bo"))
        self.assertEqual(asked, again)

    def test_the_plan_that_is_handed_in_stays_its_own(self):
        dimensions, measures = [("ware", (("tint", "day"),))], ["coins"]
        plan = Plan(dimensions, measures)
        house = House(plan)
        dimensions.append(("shop", ()))
        measures.clear()
        house.tell(fact("f", 1, "ax"))
        house.tell(kind("ax", 1, "red"))
        self.assertTrue(plan == WARE)
        self.assertTrue(house == told(WARE, kind("ax", 1, "red"), fact("f", 1, "ax")))

    def test_two_houses_of_one_plan_share_nothing(self):
        one, two = House(WARE), House(WARE)
        one.tell(kind("ax", 5, "red"))
        one.watch("w", ())
        self.assertEqual((len(two), two.rows(), two.keys_of("ware"), two.watches()), (0, [], [], []))


if __name__ == "__main__":
    unittest.main()
