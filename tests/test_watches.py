"""[13], [14]: watches, their sums, and the news."""

import unittest

from kindsofday.errors import NoFact, NoGroup, NoMeasure, NoRow, NoWatch, Twice
from kindsofday.houses import House
from kindsofday.plans import Plan
from tests.refusing import Refusing

PLAN = Plan(
    [
        ("ware", (("tint", "day"), ("maker", "first"), ("price", "last"), ("shelf", "before"))),
        ("shop", (("town", "day"),)),
    ],
    ["coins", "hours"],
)
TINT, MAKER, PRICE, SHELF = [("ware", attribute) for attribute in ("tint", "maker", "price", "shelf")]
TOWN = ("shop", "town")
FAR = 10 ** 60 - 1


def ware(key, day, tint, maker="m", price=1, shelf="s"):
    return ("kind", "ware", key, day, (tint, maker, price, shelf))


def shop(key, day, town):
    return ("kind", "shop", key, day, (town,))


def fact(name, day, ware_key="ax", shop_key="york", coins=1, hours=10):
    return ("fact", name, day, (ware_key, shop_key), (coins, hours))


def told(*rows):
    house = House(PLAN)
    for row in rows:
        house.tell(row)
    return house


def watched(groups, measure, *rows):
    """The sums of a watch that is told ahead of the rows, the same as of one behind them."""
    early = House(PLAN)
    early.watch("w", groups, measure=measure)
    for row in rows:
        early.tell(row)
    late = told(*rows)
    late.watch("w", groups, measure=measure)
    assert early.sums("w") == late.sums("w")
    return early.sums("w")


class Sums(unittest.TestCase):

    ROWS = (
        ware("ax", 5, "red"), ware("ax", 8, "blue"), shop("york", 7, "north"),
        fact("a", 4, coins=1), fact("b", 5, coins=2), fact("c", 7, coins=4), fact("d", 8, coins=8),
        fact("e", 9, coins=16), fact("f", 9, "bo", coins=32),
    )

    def test_without_groups(self):
        self.assertEqual(watched((), None, *self.ROWS), [((), 6, 0)])
        self.assertEqual(watched((), "coins", *self.ROWS), [((), 6, 63)])
        self.assertEqual(watched((), "hours", *self.ROWS), [((), 6, 60)])

    def test_without_facts(self):
        for groups in ((), (TINT,), (TINT, TOWN)):
            self.assertEqual(watched(groups, "coins"), [])
            self.assertEqual(watched(groups, "coins", ware("ax", 5, "red"), shop("york", 1, "north")), [])
            self.assertEqual(watched(groups, None, fact("a", 1), ("forget", "a")), [])

    def test_one_group(self):
        self.assertEqual(watched((TINT,), "coins", *self.ROWS), [
            (("blue",), 2, 24), (("red",), 2, 6), ((None,), 2, 33),
        ])
        self.assertEqual(watched((TINT,), None, *self.ROWS), [(("blue",), 2, 0), (("red",), 2, 0), ((None,), 2, 0)])

    def test_groups_of_several_dimensions_in_their_order(self):
        self.assertEqual(watched((TINT, TOWN), "coins", *self.ROWS), [
            (("blue", "north"), 2, 24), (("red", "north"), 1, 4), (("red", None), 1, 2),
            ((None, "north"), 1, 32), ((None, None), 1, 1),
        ])
        self.assertEqual(watched((TOWN, TINT), "coins", *self.ROWS), [
            (("north", "blue"), 2, 24), (("north", "red"), 1, 4), (("north", None), 1, 32),
            ((None, "red"), 1, 2), ((None, None), 1, 1),
        ])

    def test_a_group_twice(self):
        self.assertEqual(watched((TINT, TINT), "coins", *self.ROWS), [
            (("blue", "blue"), 2, 24), (("red", "red"), 2, 6), ((None, None), 2, 33),
        ])

    def test_six_groups(self):
        pair = ("s", None)
        self.assertEqual(
            watched((TINT, TOWN, TINT, SHELF, MAKER, PRICE), "coins", ware("ax", 5, "red"), fact("b", 5, coins=2)),
            [(("red", None, "red", pair, "m", 1), 1, 2)],
        )

    def test_all_four_ways(self):
        rows = (
            ware("ax", 5, "red", "m1", 10, "s1"), ware("ax", 8, "blue", "m2", 20, "s2"), fact("a", 4), fact("b", 6), fact("c", 9),
            fact("d", 0, "bo"),
        )
        self.assertEqual(watched((MAKER,), "coins", *rows), [(("m1",), 3, 3), ((None,), 1, 1)])
        self.assertEqual(watched((PRICE,), "coins", *rows), [((20,), 3, 3), ((None,), 1, 1)])
        self.assertEqual(watched((SHELF,), "coins", *rows), [((("s2", "s1"),), 3, 3), (((None, None),), 1, 1)])
        self.assertEqual(watched((TINT,), "coins", *rows), [(("blue",), 1, 1), (("red",), 1, 1), ((None,), 2, 2)])

    def test_sorted_by_the_reprs(self):
        values = [10, 9, "9", -1, "z", "a", "10", 0]
        rows = []
        for at, value in enumerate(values):
            rows += [ware(f"k{at}", 1, value), fact(f"f{at}", 1, f"k{at}", coins=at)]
        rows.append(fact("g", 0, "other"))
        self.assertEqual(
            [row[0][0] for row in watched((TINT,), "coins", *rows)], ["10", "9", "a", "z", -1, 0, 10, 9, None],
        )

    def test_pairs_beside_others_are_sorted_by_the_reprs(self):
        rows = []
        for at, shelves in enumerate((("b",), ("a", "b"), (3, 4), ("b", 3), (30,))):
            rows += [ware(f"k{at}", day, "red", shelf=shelf) for day, shelf in enumerate(shelves)]
            rows.append(fact(f"f{at}", 1, f"k{at}"))
        rows.append(fact("g", 0, "other"))
        self.assertEqual([row[0][0] for row in watched((SHELF,), None, *rows)], [
            ("b", "a"), ("b", None), (3, "b"), (30, None), (4, 3), (None, None),
        ])

    def test_the_lists_of_reprs_are_sorted_and_not_their_text(self):
        # ['1', '2'] comes ahead of ['10', '1'], as texts in a row would not.
        rows = (
            ware("ax", 1, 1), ware("bo", 1, 10), shop("york", 1, 2), shop("bath", 1, 1),
            fact("a", 1, "ax", "york"), fact("b", 1, "bo", "bath"),
        )
        self.assertEqual([row[0] for row in watched((TINT, TOWN), None, *rows)], [(1, 2), (10, 1)])

    def test_numbers_and_texts_are_groups_apart(self):
        rows = (ware("ax", 1, 7), ware("bo", 1, "7"), fact("a", 1), fact("b", 1, "bo"))
        self.assertEqual(watched((TINT,), "hours", *rows), [(("7",), 1, 10), ((7,), 1, 10)])

    def test_sums_of_nought_stay(self):
        self.assertEqual(watched((TINT,), "coins", fact("a", 1, coins=5), fact("b", 1, coins=-5)), [((None,), 2, 0)])

    def test_far_sums(self):
        rows = [fact(f"f{at}", at, coins=FAR, hours=-FAR) for at in range(3)]
        self.assertEqual(watched((), "coins", *rows), [((), 3, 3 * FAR)])
        self.assertEqual(watched((), "hours", *rows), [((), 3, -3 * FAR)])

    def test_groups_come_and_go(self):
        house = House(PLAN)
        house.watch("w", (TINT,), measure="coins")
        for row, sums in (
            (fact("a", 5, coins=3), [((None,), 1, 3)]),
            (fact("b", 9, coins=4), [((None,), 2, 7)]),
            (ware("ax", 8, "red"), [(("red",), 1, 4), ((None,), 1, 3)]),
            (ware("ax", 4, "blue"), [(("blue",), 1, 3), (("red",), 1, 4)]),
            (ware("ax", 8, "blue"), [(("blue",), 2, 7)]),
            (fact("a", 3, coins=3), [(("blue",), 1, 4), ((None,), 1, 3)]),
            (("forget", "b"), [((None,), 1, 3)]),
            (("forget", "a"), []),
            (fact("b", 4, coins=6), [(("blue",), 1, 6)]),
        ):
            house.tell(row)
            self.assertEqual(house.sums("w"), sums)


class Telling(unittest.TestCase):

    def test_watches_in_the_order_in_which_they_were_told(self):
        house = House(PLAN)
        self.assertEqual(house.watches(), [])
        for many, name in enumerate(("w", "b", "z", "a"), 1):
            self.assertIsNone(house.watch(name, ()))
            self.assertEqual(house.watches(), ["w", "b", "z", "a"][:many])

    def test_ten_watches(self):
        house = told(fact("a", 1, coins=2))
        for letter in "abcdefghij":
            house.watch(letter, (TINT,), measure="coins")
        house.tell(fact("b", 1, coins=3))
        self.assertEqual(house.watches(), list("abcdefghij"))
        self.assertEqual([house.sums(name) for name in house.watches()], [[((None,), 2, 5)]] * 10)
        self.assertEqual(house.news(), [(name, (None,), 2, 5) for name in "abcdefghij"])

    def test_the_measure_is_told_by_its_name_alone(self):
        house = House(PLAN)
        self.assertRaises(TypeError, house.watch, "w", (), "coins")
        house.watch("w", (), measure="coins")
        house.watch(groups=(TINT,), name="v", measure=None)
        house.watch("u", groups=())
        self.assertEqual(house.sums(name="w"), [])
        self.assertEqual(house.watches(), ["w", "v", "u"])

    def test_kinds_of_values_told(self):
        house = told(fact("a", 1))
        house.watch("w", (TINT,))
        house.tell(fact("b", 1))
        for many in (house.sums("w"), house.news()):
            self.assertIs(type(many), list)
            self.assertIs(type(many[0]), tuple)
        self.assertIs(type(house.sums("w")[0][0]), tuple)
        self.assertIs(type(house.news()[0][1]), tuple)

    def test_told_lists_are_the_askers_own(self):
        house = told(fact("a", 1))
        house.watch("w", (TINT,))
        house.tell(fact("b", 1))
        for many in (house.sums("w"), house.news(), house.watches()):
            many.clear()
        self.assertEqual(house.sums("w"), [((None,), 2, 0)])
        self.assertEqual(house.news(), [("w", (None,), 2, 0)])
        self.assertEqual(house.watches(), ["w"])
        sums, news = house.sums("w"), house.news()
        house.tell(ware("ax", 0, "red"))
        self.assertEqual((sums, news), ([((None,), 2, 0)], [("w", (None,), 2, 0)]))


class Refusals(Refusing, unittest.TestCase):

    def house(self):
        house = House(PLAN)
        house.watch("w", (TINT,), measure="coins")
        house.tell(fact("a", 1))
        return house

    def refused_watch(self, refusal, what, name, groups, measure):
        house = self.house()
        with self.subTest(name=name, groups=groups, measure=measure):
            self.refused(refusal, what, house.watch, name, groups, measure=measure)
            self.assertEqual((house.watches(), len(house)), (["w"], 1))
            self.assertEqual(house.sums("w"), [((None,), 1, 1)])
            self.assertEqual(house.news(), [("w", (None,), 1, 1)])

    def test_a_name_twice(self):
        self.refused_watch(Twice, "w", "w", (), None)
        self.refused_watch(Twice, "w", "w", (TINT,), "coins")

    def test_twice_goes_first(self):
        self.refused_watch(Twice, "w", "w", (("till", "tint"),), "coins")
        self.refused_watch(Twice, "w", "w", (), "grams")
        self.refused_watch(Twice, "w", "w", (("till", "tint"),), "grams")

    def test_groups_that_the_plan_has_not(self):
        for group in (
            ("till", "tint"), ("ware", "town"), ("shop", "tint"), ("", "tint"), ("ware", ""), ("", ""), ("ware", "coins"),
            ("tint", "ware"),
        ):
            self.refused_watch(NoGroup, group, "v", (group,), None)
            self.refused_watch(NoGroup, group, "v", (TINT, group, TOWN), "coins")

    def test_the_first_group_that_the_plan_has_not(self):
        self.refused_watch(NoGroup, ("z", "z"), "v", (TINT, ("z", "z"), ("a", "a")), None)
        self.refused_watch(NoGroup, ("ware", "a"), "v", (("ware", "a"), ("z", "z")), None)

    def test_groups_go_ahead_of_the_measure(self):
        self.refused_watch(NoGroup, ("z", "z"), "v", (("z", "z"),), "grams")

    def test_measures_that_the_plan_has_not(self):
        for measure in ("grams", "", "ware", "tint", "coin"):
            self.refused_watch(NoMeasure, measure, "v", (), measure)
            self.refused_watch(NoMeasure, measure, "v", (TINT,), measure)

    def test_a_plan_without_measures(self):
        house = House(Plan([("ware", ())]))
        self.refused(NoMeasure, "coins", house.watch, "w", (), measure="coins")
        self.refused(NoMeasure, "", house.watch, "w", (), measure="")
        house.watch("w", ())
        house.tell(("fact", "f", 1, ("ax",), ()))
        self.assertEqual(house.sums("w"), [((), 1, 0)])

    def test_a_name_is_free_behind_a_refusal(self):
        house = House(PLAN)
        self.refused(NoGroup, ("z", "z"), house.watch, "w", (("z", "z"),))
        self.refused(NoMeasure, "grams", house.watch, "w", (), measure="grams")
        self.assertEqual(house.watches(), [])
        self.assertIsNone(house.watch("w", ()))

    def test_sums_of_no_watch(self):
        for name in ("v", "", "ware", "coins", "ww"):
            self.refused(NoWatch, name, self.house().sums, name)
        self.refused(NoWatch, "w", House(PLAN).sums, "w")


class News(unittest.TestCase):

    def house(self, *rows):
        house = House(PLAN)
        house.watch("tints", (TINT,), measure="coins")
        house.watch("all", ())
        for row in rows:
            house.tell(row)
        return house

    def news_of(self, row, *rows):
        house = self.house(*rows)
        house.tell(row)
        return house.news()

    def test_behind_no_row(self):
        self.assertEqual(self.house().news(), [])
        self.assertEqual(House(PLAN).news(), [])

    def test_without_watches(self):
        self.assertEqual(told(fact("a", 1)).news(), [])

    def test_behind_a_fact(self):
        self.assertEqual(self.news_of(fact("a", 1, coins=3)), [("tints", (None,), 1, 3), ("all", (), 1, 0)])

    def test_behind_a_fact_of_sum_nought(self):
        self.assertEqual(self.news_of(fact("a", 1, coins=0)), [("tints", (None,), 1, 0), ("all", (), 1, 0)])

    def test_behind_a_fact_in_the_place_of_another(self):
        self.assertEqual(self.news_of(fact("a", 1, coins=4), fact("a", 1, coins=3)), [("tints", (None,), 1, 4)])
        self.assertEqual(self.news_of(fact("a", 2, coins=3), fact("a", 1, coins=3)), [])
        self.assertEqual(
            self.news_of(fact("a", 9, coins=3), ware("ax", 5, "red"), fact("a", 1, coins=3)),
            [("tints", ("red",), 1, 3), ("tints", (None,), 0, 0)],
        )

    def test_behind_a_forget(self):
        self.assertEqual(
            self.news_of(("forget", "a"), fact("a", 1, coins=3)), [("tints", (None,), 0, 0), ("all", (), 0, 0)],
        )
        self.assertEqual(
            self.news_of(("forget", "a"), fact("a", 1, coins=3), fact("b", 1, coins=5)),
            [("tints", (None,), 1, 5), ("all", (), 1, 0)],
        )

    def test_behind_a_kind(self):
        rows = (fact("a", 1, coins=3), fact("b", 6, coins=5), fact("c", 9, coins=7))
        self.assertEqual(
            self.news_of(ware("ax", 5, "red"), *rows), [("tints", ("red",), 2, 12), ("tints", (None,), 1, 3)],
        )
        self.assertEqual(
            self.news_of(ware("ax", 8, "blue"), *rows, ware("ax", 5, "red")),
            [("tints", ("blue",), 1, 7), ("tints", ("red",), 1, 5)],
        )

    def test_behind_a_kind_that_changes_nothing(self):
        rows = (fact("a", 1), ware("ax", 5, "red"))
        for row in (ware("ax", 5, "red"), ware("ax", 7, "red"), ware("bo", 0, "red"), ware("ax", 6, "blue"), shop("york", 0, "n")):
            self.assertEqual(self.news_of(row, *rows), [])

    def test_behind_a_kind_that_leaves_numbers_and_changes_values(self):
        house = House(PLAN)
        house.watch("prices", (PRICE,), measure="coins")
        house.watch("shelves", (SHELF,))
        for row in (ware("ax", 5, "red", price=1, shelf="s"), fact("a", 6, coins=3)):
            house.tell(row)
        self.assertEqual(house.tell(ware("ax", 9, "red", price=2, shelf="t")), ("kind", 0, 0, 0))
        self.assertEqual(house.news(), [
            ("prices", (1,), 0, 0), ("prices", (2,), 1, 3), ("shelves", (("s", None),), 0, 0), ("shelves", (("t", "s"),), 1, 0),
        ])

    def test_only_the_last_row_counts(self):
        house = self.house(fact("a", 1, coins=3), ware("zz", 1, "red"))
        self.assertEqual(house.news(), [])

    def test_asked_twice(self):
        house = self.house(fact("a", 1, coins=3))
        self.assertEqual(house.news(), house.news())
        self.assertEqual(house.news(), [("tints", (None,), 1, 3), ("all", (), 1, 0)])

    def test_a_refused_row_leaves_the_news(self):
        house = self.house(fact("a", 1, coins=3))
        for refusal, row in (
            (NoFact, ("forget", "b")), (NoRow, ("kind", "till", "ax", 1, ())), (NoRow, ("fact", "a", 1, (), (1, 1))),
        ):
            self.assertRaises(refusal, house.tell, row)
            self.assertEqual(house.news(), [("tints", (None,), 1, 3), ("all", (), 1, 0)])

    def test_a_refused_row_ahead_of_all(self):
        house = self.house()
        self.assertRaises(NoFact, house.tell, ("forget", "b"))
        self.assertEqual(house.news(), [])

    def test_a_new_watch_has_no_news_of_the_row_ahead_of_it(self):
        house = self.house(fact("a", 1, coins=3))
        house.watch("late", ())
        self.assertEqual(house.news(), [("tints", (None,), 1, 3), ("all", (), 1, 0)])
        self.assertRaises(NoFact, house.tell, ("forget", "b"))
        self.assertEqual(house.news(), [("tints", (None,), 1, 3), ("all", (), 1, 0)])
        house.tell(fact("b", 1, coins=4))
        self.assertEqual(house.news(), [("tints", (None,), 2, 7), ("all", (), 2, 0), ("late", (), 2, 0)])

    def test_a_refused_watch_leaves_the_news(self):
        house = self.house(fact("a", 1, coins=3))
        self.assertRaises(Twice, house.watch, "all", ())
        self.assertEqual(house.news(), [("tints", (None,), 1, 3), ("all", (), 1, 0)])

    def test_watch_by_watch_and_then_as_sums_are_sorted(self):
        house = House(PLAN)
        house.watch("z", (TINT,))
        house.watch("a", (TINT, TINT))
        for row in (ware("ax", 1, 9), ware("bo", 1, 10), ware("cy", 1, "9"), fact("f", 1, "ax"), fact("g", 1, "dy")):
            house.tell(row)
        house.tell(fact("f", 1, "bo"))
        self.assertEqual(house.news(), [("z", (10,), 1, 0), ("z", (9,), 0, 0), ("a", (10, 10), 1, 0), ("a", (9, 9), 0, 0)])
        house.tell(fact("g", 1, "cy"))
        self.assertEqual(
            house.news(), [("z", ("9",), 1, 0), ("z", (None,), 0, 0), ("a", ("9", "9"), 1, 0), ("a", (None, None), 0, 0)],
        )


if __name__ == "__main__":
    unittest.main()
