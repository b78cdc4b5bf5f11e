"""[15], [16]: houses as they were known, and since when a value is known."""

import unittest

from kindsofday.errors import NoFact, NoGroup, NoThing, NoTime
from kindsofday.houses import House
from kindsofday.plans import Plan
from tests.refusing import Refusing

PLAN = Plan(
    [("ware", (("tint", "day"), ("maker", "first"), ("price", "last"), ("shelf", "before"))), ("hand", ())], ["coins"],
)
TINT = ("ware", "tint")
FAR = 10 ** 60 - 1


def ware(key, day, tint, maker="m", price=1, shelf="s"):
    return ("kind", "ware", key, day, (tint, maker, price, shelf))


def fact(name, day, key="ax", coins=1):
    return ("fact", name, day, (key, "ann"), (coins,))


def told(*rows):
    house = House(PLAN)
    for row in rows:
        house.tell(row)
    return house


def all_of(house):
    versions = [(key, house.versions("ware", key)) for key in house.keys_of("ware")]
    sums = [house.sums(name) for name in house.watches()]
    return versions, house.facts(), house.rows(), len(house), house.plain(), house.watches(), sums, house.news()


ROWS = [
    fact("a", 3), ware("ax", 5, "red"), fact("b", 6, "bo", 4), ware("ax", 2, "blue"), fact("b", 6), ware("ax", 5, "blue"),
    ("forget", "a"), fact("a", 9, "cy"),
]


class Known(Refusing, unittest.TestCase):

    def house(self):
        """A house with watches that were told ahead, in the middle and behind all."""
        house = House(PLAN)
        house.watch("w", (TINT,), measure="coins")
        for at, row in enumerate(ROWS):
            house.tell(row)
            if at == 3:
                house.watch("v", ())
        house.watch("a", (TINT, ("ware", "shelf")))
        return house

    def made(self, rows):
        """The house that is known behind these rows, made by hand."""
        house = House(PLAN)
        house.watch("w", (TINT,), measure="coins")
        house.watch("v", ())
        house.watch("a", (TINT, ("ware", "shelf")))
        for row in rows:
            house.tell(row)
        return house

    def test_behind_each_row(self):
        house = self.house()
        for many in range(len(ROWS) + 1):
            with self.subTest(many=many):
                known = house.known(many)
                self.assertIs(type(known), House)
                self.assertEqual(all_of(known), all_of(self.made(ROWS[:many])))
                self.assertTrue(known == self.made(ROWS[:many]))

    def test_behind_no_row(self):
        known = self.house().known(0)
        self.assertEqual((len(known), known.rows(), known.plain(), known.news()), (0, [], ([], []), []))
        self.assertEqual(known.watches(), ["w", "v", "a"])
        self.assertEqual(House(PLAN).known(0).plain(), ([], []))

    def test_watches_count_as_told_at_the_beginning(self):
        house = told(fact("a", 3))
        house.watch("w", (), measure="coins")
        self.assertEqual(house.news(), [])
        self.assertEqual(house.known(1).news(), [("w", (), 1, 1)])
        self.assertEqual(house.known(1).sums("w"), [((), 1, 1)])

    def test_numbers_are_those_of_that_time(self):
        house = told(*ROWS)
        self.assertEqual([version[0] for version in house.versions("ware", "ax")], [1, 5])
        self.assertEqual([version[0] for version in house.known(2).versions("ware", "ax")], [1, 3])
        self.assertEqual(house.known(3).facts()[1], ("b", 6, ("bo", "ann"), (4,), (4, 2)))

    def test_beyond_the_rows(self):
        house = self.house()
        for many in (-1, -FAR, 9, 10, FAR):
            self.refused(NoTime, many, house.known, many)
        self.refused(NoTime, 1, House(PLAN).known, 1)
        self.refused(NoTime, -1, House(PLAN).known, -1)
        self.assertEqual(all_of(house), all_of(self.house()))

    def test_refused_rows_are_not_counted(self):
        house = told(fact("a", 3))
        self.assertRaises(NoFact, house.tell, ("forget", "b"))
        self.refused(NoTime, 2, house.known, 2)

    def test_a_known_house_of_a_known_house(self):
        house = self.house()
        known = house.known(6)
        for many in range(7):
            self.assertEqual(all_of(known.known(many)), all_of(house.known(many)))
        self.refused(NoTime, 7, known.known, 7)

    def test_what_is_told_to_it_leaves_the_first_one(self):
        house = self.house()
        before = all_of(house)
        for many in (0, 4, 8):
            known = house.known(many)
            known.tell(ware("ax", 1, "green"))
            known.tell(fact("zz", 1))
            known.watch("more", ())
        self.assertEqual(all_of(house), before)

    def test_what_is_told_later_leaves_the_known_one(self):
        house = self.house()
        known = house.known(8)
        before = all_of(known)
        house.tell(ware("ax", 1, "green"))
        house.watch("more", ())
        self.assertEqual(all_of(known), before)

    def test_it_goes_on_as_the_first_one_did(self):
        known = self.house().known(5)
        for row in ROWS[5:]:
            known.tell(row)
        self.assertTrue(known == self.house())
        self.assertEqual(known.facts(), self.house().facts())

    def test_by_name(self):
        self.assertTrue(self.house().known(many=3) == told(*ROWS[:3]))


class Since(Refusing, unittest.TestCase):

    def since(self, day, attribute, *rows, key="ax"):
        return told(*rows).since("ware", key, day, attribute)

    def test_a_value_that_came(self):
        self.assertEqual(self.since(5, "tint", ware("ax", 5, "red")), 1)
        self.assertEqual(self.since(5, "tint", fact("a", 1), fact("b", 1), ware("ax", 5, "red")), 3)

    def test_a_value_that_stayed(self):
        rows = (fact("a", 1), ware("ax", 5, "red"), ware("ax", 9, "blue"), ware("ax", 5, "red"), fact("b", 6))
        self.assertEqual(self.since(6, "tint", *rows), 2)
        self.assertEqual(self.since(9, "tint", *rows), 3)

    def test_a_value_that_came_went_and_came_back(self):
        rows = (ware("ax", 5, "red"), ware("ax", 5, "blue"), ware("ax", 5, "red"))
        self.assertEqual(self.since(6, "tint", *rows), 3)
        self.assertEqual(self.since(6, "tint", *rows, ware("ax", 5, "green"), ware("ax", 6, "red"), fact("a", 1)), 5)

    def test_so_always(self):
        self.assertEqual(self.since(4, "tint", fact("a", 1), ware("ax", 5, "red")), 0)
        self.assertEqual(self.since(4, "tint", ware("ax", 5, "red"), ware("ax", 8, "blue")), 0)

    def test_an_earlier_kind_gives_a_day_its_value(self):
        self.assertEqual(self.since(4, "tint", ware("ax", 5, "red"), ware("ax", 4, "red")), 2)

    def test_things_that_are_known_by_facts_alone(self):
        for attribute in ("tint", "maker", "price", "shelf"):
            self.assertEqual(self.since(4, attribute, ware("bo", 1, "red"), fact("a", 1)), 0)
            self.assertEqual(self.since(4, attribute, fact("a", 1), ("forget", "a"), fact("a", 1)), 0)

    def test_a_thing_that_was_not_known_at_first(self):
        rows = (ware("bo", 1, "red"), fact("a", 1, "bo"), ware("ax", 1, "red"))
        for attribute in ("tint", "maker", "price", "shelf"):
            self.assertEqual(self.since(4, attribute, *rows), 3)
            self.assertEqual(self.since(4, attribute, *rows, key="bo"), 1)

    def test_each_way(self):
        rows = (
            ware("ax", 5, "red", "m1", 1, "s1"), ware("ax", 8, "red", "m2", 2, "s2"), ware("ax", 3, "red", "m3", 3, "s3"),
            ware("ax", 9, "red", "m4", 2, "s2"), ware("ax", 1, "red", "m3", 9, "s1"),
        )
        for day in (0, 1, 4, 5, 8, FAR, -FAR):
            with self.subTest(day=day):
                self.assertEqual(self.since(day, "maker", *rows), 3)
                self.assertEqual(self.since(day, "price", *rows), 2)
                self.assertEqual(self.since(day, "shelf", *rows), 2)
        for day, many in ((-FAR, 0), (0, 0), (1, 5), (2, 5), (3, 3), (4, 3), (5, 1), (8, 1), (FAR, 1)):
            self.assertEqual(self.since(day, "tint", *rows), many)

    def test_of_days_in_each_version(self):
        rows = (ware("ax", 5, "red"), ware("ax", 8, "blue"), ware("ax", 2, "green"))
        for day, many in ((1, 0), (2, 3), (4, 3), (5, 1), (7, 1), (8, 2), (9, 2)):
            self.assertEqual(self.since(day, "tint", *rows), many)

    def test_before_changes_with_either_part(self):
        rows = (ware("ax", 5, "red", shelf="a"), ware("ax", 3, "red", shelf="b"), ware("ax", 4, "red", shelf="b"))
        self.assertEqual(self.since(9, "shelf", *rows[:1]), 1)
        self.assertEqual(self.since(9, "shelf", *rows), 2)

    def test_numbers_and_texts_are_unlike(self):
        self.assertEqual(self.since(6, "tint", ware("ax", 5, 7), ware("ax", 5, "7")), 2)

    def test_kinds_of_the_same_key_in_another_dimension(self):
        plan = Plan([("ware", (("tint", "day"),)), ("shop", (("tint", "day"),))])
        house = House(plan)
        for row in (("kind", "shop", "ax", 1, ("red",)), ("kind", "ware", "ax", 1, ("red",)), ("kind", "shop", "ax", 1, ("blue",))):
            house.tell(row)
        self.assertEqual(house.since("ware", "ax", 1, "tint"), 2)
        self.assertEqual(house.since("shop", "ax", 1, "tint"), 3)

    def test_a_fact_that_is_called_as_a_dimension(self):
        house = told(ware("ax", 1, "red"), ("fact", "ware", 1, ("ax", "ann"), (1,)))
        self.assertEqual(house.since("ware", "ax", 1, "tint"), 1)

    def test_refusals(self):
        house = told(ware("ax", 5, "red"), fact("a", 1))
        for dimension, key in (("ware", "bo"), ("till", "ax"), ("", "ax"), ("ware", ""), ("hand", "ax")):
            self.refused(NoThing, (dimension, key), house.since, dimension, key, 5, "tint")
            self.refused(NoThing, (dimension, key), house.since, dimension, key, 5, "none")
        for attribute in ("town", "", "ware", "coins"):
            self.refused(NoGroup, ("ware", attribute), house.since, "ware", "ax", 5, attribute)
        self.refused(NoGroup, ("hand", "tint"), house.since, "hand", "ann", 5, "tint")

    def test_known_no_more(self):
        house = told(fact("a", 1), ("forget", "a"))
        self.refused(NoThing, ("ware", "ax"), house.since, "ware", "ax", 5, "tint")

    def test_by_names(self):
        house = told(fact("a", 1), ware("ax", 5, "red"))
        self.assertEqual(house.since(attribute="tint", day=5, key="ax", dimension="ware"), 2)
        self.assertIs(type(house.since("ware", "ax", 5, "tint")), int)


if __name__ == "__main__":
    unittest.main()
