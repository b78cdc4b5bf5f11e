"""[1], [2], [4]: whatever rows come, in whatever order, held against a house made from nothing."""

import itertools
import random
import unittest

from kindsofday.desk import Desk
from kindsofday.errors import NoFact, NoRow, NoThing
from kindsofday.houses import House
from kindsofday.plans import Plan
from kindsofday.readings import read_plan, read_rows
from kindsofday.texts import show_plan, show_rows
from tests.model import Model, news_between

WAYS = ("first", "last", "day", "before")
VALUES = (0, 1, -1, "0", "a", "b")


def drawn_plan(chance):
    names = ("ware", "shop", "hand", "till")[:chance.randint(1, 4)]
    dimensions = [
        (name, tuple((letter, chance.choice(WAYS)) for letter in "vwxyz"[:chance.choice((0, 1, 1, 2, 2, 5))]))
        for name in names
    ]
    return Plan(dimensions, ["coins", "hours", "grams", "tons"][:chance.randint(0, 4)])


def drawn_row(chance, plan):
    """A row of few names, keys and days, so that rows often meet; now and then one that is refused."""
    form = chance.choice(("kind", "kind", "fact", "fact", "forget"))
    if form == "forget":
        return ("forget", chance.choice("fghi"))
    day, slip = chance.randint(-3, 6), chance.choice((0,) * 15 + (1, -1))
    if form == "kind":
        dimension, attributes = chance.choice(plan.dimensions())
        values = tuple(chance.choice(VALUES) for place in range(max(0, len(attributes) + slip)))
        return ("kind", dimension, chance.choice("abc"), day, values)
    keys = tuple(chance.choice("abcd") for place in range(len(plan.dimensions())))
    numbers = tuple(chance.randint(-9, 9) for place in range(max(0, len(plan.measures()) + slip)))
    return ("fact", chance.choice("fghi"), day, keys, numbers)


def drawn_watches(chance, plan):
    groups = [(dimension, attribute) for dimension, attributes in plan.dimensions() for attribute, way in attributes]
    watches = []
    for name in ("w", "v", "u"):
        drawn = tuple(chance.choice(groups) for place in range(chance.randint(0, 6))) if groups else ()
        watches.append((name, drawn, chance.choice([None] + plan.measures())))
    return watches


def is_faulty(plan, row, facts):
    """Whether a drawn row must be refused, by the words of [6]."""
    if row[0] == "kind":
        return len(row[4]) != len(dict(plan.dimensions())[row[1]])
    if row[0] == "fact":
        return len(row[4]) != len(plan.measures())
    return row[1] not in facts


def all_of(house):
    """All that a house tells, its numbers, too."""
    versions = [
        (dimension, key, house.versions(dimension, key))
        for dimension, attributes in house.plan.dimensions() for key in house.keys_of(dimension)
    ]
    sums = [(name, house.sums(name)) for name in house.watches()]
    return versions, house.facts(), house.rows(), len(house), house.plain(), sums, house.news()


def kept_rows(model):
    """The kinds and facts that are kept, each as one row."""
    kinds = [("kind", *place, values) for place, values in model.kinds.items()]
    return kinds + [("fact", name, *parts) for name, parts in model.facts.items()]


def told(plan, rows, watches=()):
    house = House(plan)
    for name, groups, measure in watches:
        house.watch(name, groups, measure=measure)
    for row in rows:
        house.tell(row)
    return house


class Drawn(unittest.TestCase):
    """Many drawn rows; behind each the house is held against the slow one."""

    def run_of(self, seed, turns):
        chance = random.Random(seed)
        plan = drawn_plan(chance)
        watches = drawn_watches(chance, plan)
        house, model = House(plan), Model(plan.dimensions(), plan.measures())
        for name, groups, measure in watches[:2]:
            house.watch(name, groups, measure=measure)
        late = chance.randrange(turns)
        for turn in range(turns):
            if turn == late:
                house.watch(watches[2][0], watches[2][1], measure=watches[2][2])
            self.take(house, model, drawn_row(chance, plan), [watch for watch in watches if watch[0] in house.watches()])
        return chance, plan, house, model, watches

    def take(self, house, model, row, watches):
        if is_faulty(house.plan, row, model.facts):
            before = all_of(house)
            self.assertRaises(NoFact if row[0] == "forget" else NoRow, house.tell, row)
            self.assertEqual(all_of(house), before)
            return
        sums = {name: model.sums(groups, measure) for name, groups, measure in watches}
        self.assertEqual(house.tell(row), model.tell(row))
        news = []
        for name, groups, measure in watches:
            self.assertEqual(house.sums(name), model.sums(groups, measure))
            news += news_between(name, sums[name], model.sums(groups, measure))
        self.assertEqual(house.news(), news)
        self.assertEqual(house.plain(), model.plain())
        self.assertEqual(house.facts(), model.led_facts())
        for thing in model.known_things():
            self.assertEqual(house.versions(*thing), model.numbered(thing))

    def test_each_row_against_the_slow_house(self):
        for seed in range(120):
            with self.subTest(seed=seed):
                self.run_of(seed, 30)

    def test_seventy_rows(self):
        for seed in range(1000, 1006):
            with self.subTest(seed=seed):
                self.run_of(seed, 90)

    def test_made_from_nothing_in_any_order(self):
        for seed in range(200, 260):
            chance, plan, house, model, watches = self.run_of(seed, 25)
            rows = kept_rows(model)
            for shuffle in range(3):
                chance.shuffle(rows)
                other = told(plan, rows, watches)
                with self.subTest(seed=seed, rows=rows):
                    self.assertTrue(house == other)
                    self.assertFalse(house != other)
                    self.assertEqual(house.plain(), other.plain())
                    for name, groups, measure in watches:
                        self.assertEqual(house.sums(name), other.sums(name))

    def test_known_behind_each_row(self):
        for seed in range(300, 330):
            chance, plan, house, model, watches = self.run_of(seed, 20)
            for many in range(len(house) + 1):
                with self.subTest(seed=seed, many=many):
                    made = told(plan, house.rows()[:many], watches)
                    self.assertEqual(all_of(house.known(many)), all_of(made))

    def test_since_by_the_house_behind_each_row(self):
        for seed in range(400, 430):
            chance, plan, house, model, watches = self.run_of(seed, 20)
            asked = [
                (dimension, key, day, attribute) for dimension, attributes in plan.dimensions()
                for attribute, way in attributes for key in house.keys_of(dimension) for day in (-4, -1, 2, 4, 7)
            ]
            past = Model(plan.dimensions(), plan.measures())
            told_of = {one: [past.value_on(one[:2], *one[2:])] for one in asked}
            for row in house.rows():
                past.tell(row)
                for one in asked:
                    told_of[one].append(past.value_on(one[:2], *one[2:]))
            for one, values in told_of.items():
                many = min(many for many in range(len(values)) if set(values[many:]) == {values[-1]})
                with self.subTest(seed=seed, asked=one):
                    self.assertEqual(house.since(*one), many)

    def test_versions_cover_all_days_and_numbers_are_given_once(self):
        for seed in range(500, 540):
            chance = random.Random(seed)
            plan = drawn_plan(chance)
            house, holders = House(plan), {}
            for turn in range(40):
                try:
                    house.tell(drawn_row(chance, plan))
                except (NoRow, NoFact):
                    continue
                for dimension, attributes in plan.dimensions():
                    for key in house.keys_of(dimension):
                        versions = house.versions(dimension, key)
                        self.assertEqual([versions[0][1], versions[-1][2]], [None, None])
                        self.assertEqual([version[2] for version in versions[:-1]], [version[1] for version in versions[1:]])
                        for number, begin, end, values in versions:
                            self.assertEqual(holders.setdefault(number, (dimension, key, begin)), (dimension, key, begin))

    def test_texts_and_desk_tell_the_same(self):
        for seed in range(600, 630):
            chance, plan, house, model, watches = self.run_of(seed, 20)
            self.assertTrue(read_plan(show_plan(plan)) == plan)
            self.assertEqual(read_rows(plan, show_rows(house.rows())), house.rows())
            desk = Desk()
            desk.say("plan " + show_plan(plan))
            for row in house.rows():
                desk.say("tell " + show_rows([row]))
            facts = [f"{row[0]}:{','.join(str(number) for number in row[4])}" for row in house.facts()]
            self.assertEqual(desk.say("facts"), " ".join(facts) or "none")
            self.assertEqual(desk.say("rows"), str(len(house)))
            self.assertEqual(desk.say(f"known {len(house)}"), str(sum(len(row[2]) for row in house.plain()[0])))


class Orders(unittest.TestCase):

    PLAN = Plan([("ware", (("tint", "day"), ("maker", "first"), ("shelf", "before"))), ("shop", ())], ["coins"])
    ROWS = (
        ("kind", "ware", "ax", 5, ("red", 1, "s")), ("kind", "ware", "ax", 9, ("blue", 2, "t")),
        ("kind", "ware", "ax", 2, ("red", 3, "s")), ("fact", "f", 6, ("ax", "york"), (3,)), ("fact", "g", 1, ("bo", "york"), (4,)),
    )

    def test_the_same_rows_in_every_order(self):
        pair = ("t", "s")
        things = [
            ("ware", "ax", [(None, 2, (None, 3, pair)), (2, 9, ("red", 3, pair)), (9, None, ("blue", 3, pair))]),
            ("ware", "bo", [(None, None, (None, None, (None, None)))]), ("shop", "york", [(None, None, ())]),
        ]
        facts = [("f", 6, ("ax", "york"), (3,), (2, None)), ("g", 1, ("bo", "york"), (4,), (None, None))]
        first = told(self.PLAN, self.ROWS)
        for order in itertools.permutations(self.ROWS):
            house = told(self.PLAN, order, [("w", (("ware", "tint"), ("ware", "shelf")), "coins")])
            self.assertEqual(house.plain(), (things, facts))
            self.assertEqual(house.sums("w"), [(("red", pair), 1, 3), ((None, (None, None)), 1, 4)])
            self.assertTrue(house == first)

    def test_corrections_on_the_way_leave_no_trace(self):
        detours = (
            ("kind", "ware", "ax", 5, ("green", 7, "u")), ("fact", "f", 9, ("cy", "bath"), (8,)), ("fact", "g", 9, ("ax", "bath"), (8,)),
        )
        first = told(self.PLAN, self.ROWS)
        for order in itertools.permutations(detours):
            house = told(self.PLAN, order + self.ROWS)
            self.assertTrue(house == first)
            self.assertEqual(house.plain(), first.plain())
            self.assertRaises(NoThing, house.versions, "ware", "cy")
            self.assertRaises(NoThing, house.versions, "shop", "bath")

    def test_equal_houses_may_have_other_numbers(self):
        one, two = told(self.PLAN, self.ROWS), told(self.PLAN, self.ROWS[::-1])
        self.assertTrue(one == two)
        self.assertNotEqual(one.facts(), two.facts())


class Hands(unittest.TestCase):
    """Lists that are told or handed in, changed behind."""

    def test_lists_that_were_handed_in(self):
        dimensions, measures = [("ware", (("tint", "day"),)), ("shop", ())], ["coins"]
        house = House(Plan(dimensions, measures))
        rows = [("kind", "ware", "ax", 5, ("red",)), ("fact", "f", 6, ("ax", "york"), (3,))]
        for row in rows:
            house.tell(row)
        text = show_rows(rows)
        before = all_of(house)
        dimensions.clear()
        measures.append("more")
        rows.clear()
        self.assertEqual(all_of(house), before)
        self.assertEqual(show_rows(house.rows()), text)

    def test_told_lists_at_every_depth(self):
        house = told(
            Plan([("ware", (("tint", "day"),))], ["coins"]),
            [("kind", "ware", "ax", 5, ("red",)), ("fact", "f", 6, ("ax",), (3,))], [("w", (("ware", "tint"),), "coins")],
        )
        before = all_of(house)
        for asked in (
            house.versions("ware", "ax"), house.keys_of("ware"), house.facts(), house.rows(), house.watches(), house.sums("w"),
            house.news(), *house.plain(), house.plain()[0][0][2], house.known(1).rows(), house.plan.dimensions(),
        ):
            self.assertIs(type(asked), list)
            asked.clear()
            asked.append("more")
        self.assertEqual(all_of(house), before)


if __name__ == "__main__":
    unittest.main()
