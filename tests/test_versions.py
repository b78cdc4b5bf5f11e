"""[4], [7], [8]: the cuts, the stretches, and the values of the four ways."""

import itertools
import random
import unittest

from kindsofday.errors import NoThing
from kindsofday.plans import Plan
from kindsofday.versions import stretches

WAYS = ("first", "last", "day", "before")
FAR = 10 ** 60 - 1


def by_way(way):
    return Plan([("ware", (("tint", way),))])


def by_ways(*ways):
    return Plan([("ware", tuple((letter, way) for letter, way in zip("abcde", ways)))])


def kinds_of(*pairs):
    """Kinds of one attribute each."""
    return [(day, (value,)) for day, value in pairs]


class NoKinds(unittest.TestCase):

    def test_one_version_of_all_days(self):
        self.assertEqual(stretches(by_way("first"), "ware", []), [(None, None, (None,))])
        self.assertEqual(stretches(by_way("last"), "ware", []), [(None, None, (None,))])
        self.assertEqual(stretches(by_way("day"), "ware", []), [(None, None, (None,))])
        self.assertEqual(stretches(by_way("before"), "ware", []), [(None, None, ((None, None),))])

    def test_all_ways_together(self):
        told = stretches(by_ways("before", "first", "day", "last", "before"), "ware", [])
        self.assertEqual(told, [(None, None, ((None, None), None, None, None, (None, None)))])

    def test_without_attributes(self):
        self.assertEqual(stretches(Plan([("hand", ())]), "hand", []), [(None, None, ())])


class OneKind(unittest.TestCase):

    def test_each_way(self):
        one = kinds_of((5, "red"))
        self.assertEqual(stretches(by_way("first"), "ware", one), [(None, 5, ("red",)), (5, None, ("red",))])
        self.assertEqual(stretches(by_way("last"), "ware", one), [(None, 5, ("red",)), (5, None, ("red",))])
        self.assertEqual(stretches(by_way("day"), "ware", one), [(None, 5, (None,)), (5, None, ("red",))])
        pair = ("red", None)
        self.assertEqual(stretches(by_way("before"), "ware", one), [(None, 5, (pair,)), (5, None, (pair,))])

    def test_without_attributes(self):
        told = stretches(Plan([("hand", ())]), "hand", [(5, ())])
        self.assertEqual(told, [(None, 5, ()), (5, None, ())])

    def test_day_nought_is_a_day(self):
        told = stretches(by_way("day"), "ware", kinds_of((0, 0)))
        self.assertEqual(told, [(None, 0, (None,)), (0, None, (0,))])


class SeveralKinds(unittest.TestCase):

    def test_day_cuts_where_the_value_changes(self):
        told = stretches(by_way("day"), "ware", kinds_of((1, "red"), (4, "red"), (6, "blue"), (9, "red")))
        self.assertEqual(told, [(None, 1, (None,)), (1, 6, ("red",)), (6, 9, ("blue",)), (9, None, ("red",))])

    def test_values_that_stay_do_not_cut(self):
        told = stretches(by_way("day"), "ware", kinds_of((1, "red"), (2, "red"), (3, "red")))
        self.assertEqual(told, [(None, 1, (None,)), (1, None, ("red",))])

    def test_the_kind_ahead_counts_and_not_the_one_that_begins(self):
        plan = by_ways("day", "day")
        told = stretches(plan, "ware", [(1, ("a", 1)), (2, ("a", 2)), (3, ("b", 2)), (4, ("b", 2)), (5, ("a", 1))])
        self.assertEqual(told, [
            (None, 1, (None, None)), (1, 2, ("a", 1)), (2, 3, ("a", 2)), (3, 5, ("b", 2)), (5, None, ("a", 1)),
        ])

    def test_other_ways_do_not_cut(self):
        kinds = kinds_of((1, "red"), (4, "blue"), (6, "green"))
        for way, value in (("first", "red"), ("last", "green"), ("before", ("green", "blue"))):
            with self.subTest(way):
                told = stretches(by_way(way), "ware", kinds)
                self.assertEqual(told, [(None, 1, (value,)), (1, None, (value,))])

    def test_without_attributes_only_the_first_kind_cuts(self):
        told = stretches(Plan([("hand", ())]), "hand", [(9, ()), (-2, ()), (5, ())])
        self.assertEqual(told, [(None, -2, ()), (-2, None, ())])

    def test_before_is_the_last_value_that_is_unlike(self):
        for column, pair in (
            (("a",), ("a", None)),
            (("a", "a"), ("a", None)),
            (("a", "b"), ("b", "a")),
            (("a", "b", "b"), ("b", "a")),
            (("a", "b", "a"), ("a", "b")),
            (("a", "b", "c"), ("c", "b")),
            (("a", "b", "c", "c"), ("c", "b")),
            (("c", "a", "c", "c"), ("c", "a")),
            (("a", "b", "c", "b", "c", "c"), ("c", "b")),
            ((0, "0"), ("0", 0)),
            ((1, 0), (0, 1)),
            (("", 0), (0, "")),
        ):
            with self.subTest(column=column):
                kinds = kinds_of(*enumerate(column))
                told = stretches(by_way("before"), "ware", kinds)
                self.assertEqual(told, [(None, 0, (pair,)), (0, None, (pair,))])

    def test_first_and_last_go_by_days_and_not_by_places(self):
        kinds = kinds_of((5, "mid"), (9, "end"), (-4, "begin"))
        self.assertEqual(stretches(by_way("first"), "ware", kinds)[0], (None, -4, ("begin",)))
        self.assertEqual(stretches(by_way("last"), "ware", kinds)[1], (-4, None, ("end",)))

    def test_numbers_and_texts_are_unlike(self):
        told = stretches(by_way("day"), "ware", kinds_of((1, 7), (2, "7"), (3, 7)))
        self.assertEqual(told, [(None, 1, (None,)), (1, 2, (7,)), (2, 3, ("7",)), (3, None, (7,))])

    def test_all_ways_together(self):
        plan = by_ways("first", "last", "day", "before", "day")
        kinds = [
            (10, ("a", "p", 1, "x", "s")), (20, ("b", "q", 1, "y", "s")),
            (30, ("c", "r", 2, "y", "s")), (40, ("d", "s", 2, "y", "t")),
        ]
        pair = ("y", "x")
        self.assertEqual(stretches(plan, "ware", kinds), [
            (None, 10, ("a", "s", None, pair, None)), (10, 30, ("a", "s", 1, pair, "s")),
            (30, 40, ("a", "s", 2, pair, "s")), (40, None, ("a", "s", 2, pair, "t")),
        ])

    def test_any_order_tells_the_same(self):
        plan = by_ways(*WAYS)
        kinds = [(-3, (1, 1, 1, 1)), (0, (2, 2, 1, 2)), (2, (3, 1, 2, 2)), (8, (1, 1, 1, 1))]
        expected = [
            (None, -3, (1, 1, None, (1, 2))), (-3, 2, (1, 1, 1, (1, 2))),
            (2, 8, (1, 1, 2, (1, 2))), (8, None, (1, 1, 1, (1, 2))),
        ]
        for order in itertools.permutations(kinds):
            self.assertEqual(stretches(plan, "ware", list(order)), expected)

    def test_days_below_nought_and_far_ones(self):
        told = stretches(by_way("day"), "ware", kinds_of((FAR, "end"), (-FAR, "begin"), (-1, "mid")))
        self.assertEqual(told, [
            (None, -FAR, (None,)), (-FAR, -1, ("begin",)), (-1, FAR, ("mid",)), (FAR, None, ("end",)),
        ])

    def test_days_side_by_side(self):
        told = stretches(by_way("day"), "ware", kinds_of((-1, "b"), (0, "c"), (-2, "a")))
        self.assertEqual(told, [(None, -2, (None,)), (-2, -1, ("a",)), (-1, 0, ("b",)), (0, None, ("c",))])

    def test_equal_values_that_are_other_objects_are_alike(self):
        for make in (lambda: int("7" * 60), lambda: "".join(["re", "d"])):
            kinds = kinds_of((1, make()), (2, make()))
            self.assertIsNot(kinds[0][1][0], kinds[1][1][0])
            self.assertEqual(stretches(by_way("day"), "ware", kinds), [(None, 1, (None,)), (1, None, (make(),))])
            self.assertEqual(stretches(by_way("before"), "ware", kinds)[1], (1, None, ((make(), None),)))

    def test_names_and_ways_that_are_other_objects(self):
        plan = Plan([("".join(["wa", "re"]), (("tint", "".join(["da", "y"])), ("size", "".join(["befor", "e"]))))])
        told = stretches(plan, "".join(["war", "e"]), [(1, ("red", 3)), (2, ("blue", 3))])
        pair = (3, None)
        self.assertEqual(told, [(None, 1, (None, pair)), (1, 2, ("red", pair)), (2, None, ("blue", pair))])

    def test_seventy_kinds(self):
        told = stretches(by_way("day"), "ware", kinds_of(*[(day, day) for day in range(70)]))
        self.assertEqual(len(told), 71)
        self.assertEqual(told[-1], (69, None, (69,)))


class Dimensions(unittest.TestCase):

    PLAN = Plan([("ware", (("tint", "day"),)), ("shop", (("town", "last"), ("size", "day"))), ("hand", ())])

    def test_each_goes_by_its_own_attributes(self):
        self.assertEqual(stretches(self.PLAN, "ware", [(1, ("red",))]), [(None, 1, (None,)), (1, None, ("red",))])
        self.assertEqual(
            stretches(self.PLAN, "shop", [(1, ("york", 2))]), [(None, 1, ("york", None)), (1, None, ("york", 2))],
        )
        self.assertEqual(stretches(self.PLAN, "hand", [(1, ())]), [(None, 1, ()), (1, None, ())])

    def test_one_that_the_plan_has_not(self):
        for dimension in ("till", "", "wares", "tint", "town"):
            for kinds in ([], [(1, ("red",))], [(1, ())]):
                with self.subTest(dimension=dimension, kinds=kinds):
                    with self.assertRaises(NoThing) as caught:
                        stretches(self.PLAN, dimension, kinds)
                    self.assertEqual(caught.exception.what, (dimension, None))
                    self.assertIs(type(caught.exception.what), tuple)


class Owning(unittest.TestCase):

    def test_what_is_handed_in_stays_as_it_was(self):
        plan, kinds = by_way("day"), kinds_of((5, "b"), (1, "a"), (9, "b"))
        stretches(plan, "ware", kinds)
        self.assertEqual(kinds, kinds_of((5, "b"), (1, "a"), (9, "b")))
        self.assertEqual(plan, by_way("day"))

    def test_changing_a_told_list_changes_nothing(self):
        plan, kinds = by_way("day"), kinds_of((1, "a"), (5, "b"))
        told = stretches(plan, "ware", kinds)
        told.clear()
        self.assertEqual(len(stretches(plan, "ware", kinds)), 3)
        self.assertEqual(kinds, kinds_of((1, "a"), (5, "b")))

    def test_changing_the_kinds_later_changes_nothing_told(self):
        plan, kinds = by_way("day"), kinds_of((1, "a"))
        told = stretches(plan, "ware", kinds)
        kinds.append((5, ("b",)))
        self.assertEqual(told, [(None, 1, (None,)), (1, None, ("a",))])

    def test_kinds_of_values_told(self):
        told = stretches(by_ways(*WAYS), "ware", [(1, ("a", "b", "c", "d"))])
        self.assertIs(type(told), list)
        for version in told:
            self.assertIs(type(version), tuple)
            self.assertIs(type(version[2]), tuple)
            self.assertIs(type(version[2][3]), tuple)

    def test_by_names(self):
        kinds = kinds_of((1, "a"))
        self.assertEqual(
            stretches(kinds=kinds, plan=by_way("day"), dimension="ware"), stretches(by_way("day"), "ware", kinds),
        )


class DayByDay(unittest.TestCase):
    """Each day is told of by the words of [7] and [8], and compared."""

    def cut_days(self, ways, kinds):
        held = dict(kinds)
        days = sorted(held)
        cuts = days[:1]
        for at in range(1, len(days)):
            old, new = held[days[at - 1]], held[days[at]]
            if [value for value, way in zip(old, ways) if way == "day"] != [
                value for value, way in zip(new, ways) if way == "day"
            ]:
                cuts.append(days[at])
        return cuts

    def value_on(self, way, at, held, cut):
        if way == "day":
            return held[cut][at] if cut is not None else None
        if not held:
            return (None, None) if way == "before" else None
        if way == "first":
            return held[min(held)][at]
        last = held[max(held)][at]
        if way == "last":
            return last
        unlike = [day for day in held if held[day][at] != last]
        return (last, held[max(unlike)][at] if unlike else None)

    def check(self, ways, kinds):
        held, cuts = dict(kinds), self.cut_days(ways, kinds)
        told = stretches(by_ways(*ways), "ware", kinds)
        self.assertEqual([version[0] for version in told], [None] + cuts)
        self.assertEqual([version[1] for version in told], cuts + [None])
        for day in range(-14, 15):
            holding = [
                version for version in told
                if (version[0] is None or version[0] <= day) and (version[1] is None or day < version[1])
            ]
            self.assertEqual(len(holding), 1)
            cut = max([cut for cut in cuts if cut <= day], default=None)
            values = tuple(self.value_on(way, at, held, cut) for at, way in enumerate(ways))
            self.assertEqual(holding[0][2], values)

    def test_each_day_has_one_version_with_the_values_of_the_words(self):
        chance = random.Random(7)
        for turn in range(600):
            ways = [chance.choice(WAYS) for place in range(chance.randrange(6))]
            days = chance.sample(range(-12, 13), chance.randrange(9))
            kinds = [(day, tuple(chance.choice((0, 1, "0", "a")) for way in ways)) for day in days]
            with self.subTest(ways=ways, kinds=kinds):
                self.check(ways, kinds)


if __name__ == "__main__":
    unittest.main()
