"""[17]: the writings of plans and rows, and what is read from them."""

import random
import unittest

from kindsofday.errors import NoText
from kindsofday.plans import Plan
from kindsofday.readings import read_plan, read_rows
from kindsofday.texts import show_plan, show_rows
from tests.refusing import Refusing

FAR = 10 ** 60 - 1
PLAN = Plan([("ware", (("tint", "day"), ("price", "last"))), ("shop", (("town", "before"),)), ("hand", ())], ["coins", "hours"])
BARE = Plan([("ware", ())])
FIVE = (("a", "first"), ("b", "last"), ("c", "day"), ("d", "before"), ("abcdefgh", "day"))

PLANS = (
    (BARE, "dim ware"),
    (Plan([("ware", (("kind", "day"),))], ["coins"]), "dim ware kind:day; sum coins"),
    (PLAN, "dim ware tint:day price:last; dim shop town:before; dim hand; sum coins hours"),
    (Plan([("dim", (("sum", "first"),)), ("sum", ())], ["sum", "dim"]), "dim dim sum:first; dim sum; sum sum dim"),
    (Plan([("z", ()), ("a", ())]), "dim z; dim a"),
    (
        Plan([("a", FIVE), ("b", FIVE), ("c", FIVE), ("abcdefgh", FIVE)], ["w", "x", "y", "zzzzzzzz"]),
        "dim a a:first b:last c:day d:before abcdefgh:day; dim b a:first b:last c:day d:before abcdefgh:day; "
        "dim c a:first b:last c:day d:before abcdefgh:day; dim abcdefgh a:first b:last c:day d:before abcdefgh:day; "
        "sum w x y zzzzzzzz",
    ),
)

NO_PLANS = (
    "", " ", "-", ";", "; ", "dim", "dim ", "ware", "dim  ware", " dim ware", "dim ware ", "dim ware  tint:day",
    "dim ware tint:day ", "dim ware;", "dim ware; ", "; dim ware", "dim ware;dim shop", "dim ware;  dim shop",
    "dim ware ; dim shop", "dim ware; ; dim shop", "dim ware; shop", "Dim ware", "dims ware", "DIM ware",
    "dim Ware", "dim ware3", "dim abcdefghi", "dim ware; dim ware", "dim a; dim b; dim c; dim d; dim e",
    "dim ware tint", "dim ware tint:", "dim ware :day", "dim ware tint:days", "dim ware tint:Day", "dim ware tint: day",
    "dim ware tint :day", "dim ware tint:day:day", "dim ware tint;day", "dim ware tint:day,price:last", "dim ware tint:none",
    "dim ware Tint:day", "dim ware abcdefghi:day", "dim ware t1nt:day", "dim ware tint:day tint:day",
    "dim ware tint:day tint:last", "dim ware a:day b:day c:day d:day e:day f:day",
    "sum coins", "sum", "dim ware; sum", "dim ware; sum ", "dim ware; sum  coins", "dim ware; sum coins ",
    "dim ware; sum coins coins", "dim ware; sum Coins", "dim ware; sum abcdefghi", "dim ware; sum c0ins",
    "dim ware; sum a b c d e", "dim ware; sum a; sum b", "sum coins; dim ware", "dim ware; sum coins; dim shop",
    "dim ware; sum coins:day", "dim ware; sum -", "dim ware sum coins", "dim ware; sum coins;", "dim ware; coins",
    "dim 'ware'", "dim w~", "dim ware tint|day", "dim ware.tint:day",
)


class Plans(Refusing, unittest.TestCase):

    def test_written(self):
        for plan, text in PLANS:
            self.assertEqual(show_plan(plan), text)
            self.assertEqual(show_plan(plan=plan), text)

    def test_read_back(self):
        for plan, text in PLANS:
            read = read_plan(text)
            self.assertIs(type(read), Plan)
            self.assertTrue(read == plan)
            self.assertEqual((read.dimensions(), read.measures()), (plan.dimensions(), plan.measures()))
            self.assertTrue(read_plan(text=text) == plan)

    def test_texts_that_write_none(self):
        for text in NO_PLANS:
            with self.subTest(text=text):
                self.refused(NoText, text, read_plan, text)

    def test_any_other_sign_writes_none_or_another_plan(self):
        text = "dim ware kind:day; dim shop; sum coins"
        for at in range(len(text)):
            for sign in (" ", ";", ":", "-", "0", "A", "'", "~", "", "  ", ".", "z"):
                other = text[:at] + sign + text[at + 1:]
                with self.subTest(other=other):
                    try:
                        read = read_plan(other)
                    except NoText as refusal:
                        self.assertEqual(refusal.what, other)
                    else:
                        self.assertEqual(show_plan(read), other)


ROWS = (
    ([], "-"),
    ([("kind", "ware", "ax", 3, ("red", 4))], "kind ware ax 3 'red' 4"),
    ([("kind", "ware", "7", -3, ("4", -4))], "kind ware 7 -3 '4' -4"),
    ([("kind", "ware", "007", 0, ("0", 0))], "kind ware 007 0 '0' 0"),
    ([("kind", "ware", "abcdefghij12", FAR, ("abcdefghij12", -FAR))], f"kind ware abcdefghij12 {FAR} 'abcdefghij12' -{FAR}"),
    ([("kind", "ware", "ax", -FAR, (FAR, "123456789012"))], f"kind ware ax -{FAR} {FAR} '123456789012'"),
    ([("kind", "shop", "york", 10, ("north",))], "kind shop york 10 'north'"),
    ([("kind", "hand", "ann", 10, ())], "kind hand ann 10"),
    ([("fact", "f1", 3, ("ax", "york", "ann"), (5, -2))], "fact f1 3 ax york ann 5 -2"),
    ([("fact", "1", -1, ("2", "3", "04"), (FAR, -FAR))], f"fact 1 -1 2 3 04 {FAR} -{FAR}"),
    ([("fact", "abcdefghij12", 0, ("0", "0", "0"), (0, 0))], "fact abcdefghij12 0 0 0 0 0 0"),
    ([("forget", "f1")], "forget f1"),
    ([("forget", "forget")], "forget forget"),
    ([("forget", "0")], "forget 0"),
    (
        [("fact", "f", 3, ("ax", "york", "ann"), (5, 6)), ("kind", "ware", "ax", 3, (4, "red")), ("forget", "f"), ("forget", "f")],
        "fact f 3 ax york ann 5 6; kind ware ax 3 4 'red'; forget f; forget f",
    ),
)

NO_NUMBERS = ("", "-", "--1", "+1", "-0", "00", "01", "-01", "1-", "1.0", "1e3", "0x1", "1_0", "a", "'1'", "1,0", str(10 ** 60), str(-10 ** 60))
NO_KEYS = ("", "Ax", "AX", "a-x", "a_x", "a.x", "'ax'", "abcdefghijklm", "1234567890123", "-", "-1", "a:x", "~", "a'x")
NO_VALUES = (
    "", "red", "'red", "red'", "'", "''", "'Red'", "'re-d'", "'-1'", "\"red\"", "'abcdefghijklm'", "''red''", "'re'd'", "-",
    "+1", "01", "-0", str(10 ** 60), "1.5", "'~'", "None", "`red`", "'red'4",
)


class Rows(Refusing, unittest.TestCase):

    def none(self, *texts, plan=PLAN):
        for text in texts:
            with self.subTest(text=text):
                self.refused(NoText, text, read_rows, plan, text)

    def test_written(self):
        for rows, text in ROWS:
            self.assertEqual(show_rows(rows), text)
        self.assertEqual(show_rows(rows=ROWS[1][0]), ROWS[1][1])

    def test_read_back(self):
        for rows, text in ROWS:
            with self.subTest(text=text):
                read = read_rows(PLAN, text)
                self.assertEqual(read, rows)
                self.assertIs(type(read), list)
        self.assertEqual(read_rows(text="forget f", plan=PLAN), [("forget", "f")])

    def test_kinds_of_values_read(self):
        fact, kind = read_rows(PLAN, "fact f 3 ax york ann 5 6; kind ware ax 3 4 '4'")
        self.assertEqual([type(part) for part in fact], [str, str, int, tuple, tuple])
        self.assertEqual([type(part) for part in kind], [str, str, str, int, tuple])
        self.assertEqual([type(value) for value in kind[4]], [int, str])
        self.assertEqual([type(number) for number in fact[4]], [int, int])

    def test_keys_and_numbers_are_parted_by_the_plan(self):
        text = "fact 1 2 3 4 5 6 7"
        for dimensions in range(1, 5):
            measures = 5 - dimensions
            plan = Plan([(letter, ()) for letter in "abcd"[:dimensions]], list("wxyz"[:measures]))
            parts = ("3", "4", "5", "6", "7")
            keys, numbers = parts[:dimensions], tuple(int(part) for part in parts[dimensions:])
            self.assertEqual(read_rows(plan, text), [("fact", "1", 2, keys, numbers)])
            self.assertEqual(show_rows(read_rows(plan, text)), text)

    def test_a_plan_without_attributes_and_measures(self):
        self.assertEqual(read_rows(BARE, "fact f 1 ax"), [("fact", "f", 1, ("ax",), ())])
        self.assertEqual(read_rows(BARE, "kind ware ax 1"), [("kind", "ware", "ax", 1, ())])
        self.none("fact f 1 ax 1", "fact f 1", "kind ware ax 1 1", "kind ware ax", "kind ware ax 1 ", plan=BARE)

    def test_blanks_and_semicolons(self):
        self.none(
            "", " ", ";", "; ", "--", "- ", " -", "-; -", "-; forget f", "forget f; -", "forget", "forget ", " forget f",
            "forget f ", "forget  f", "forget f;", "forget f; ", "; forget f", "forget f;forget g", "forget f;  forget g",
            "forget f ; forget g", "forget f; ; forget g", "forget f,forget g", "kind  ware ax 3 'red' 4", "kind ware ax 3  'red' 4",
            "kind ware ax 3 'red' 4 ", "fact f1 3 ax york  ann 5 -2", "fact f1 3 ax york ann 5 -2 ", "kind", "fact", "none",
        )

    def test_words(self):
        self.none(
            "Kind ware ax 3 'red' 4", "kinds ware ax 3 'red' 4", "ware ax 3 'red' 4", "facts f1 3 ax york ann 5 -2",
            "forgets f", "FORGET f", "tell forget f", "f",
        )

    def test_too_few_or_too_many_parts(self):
        self.none(
            "kind ware ax 3 'red'", "kind ware ax 3", "kind ware ax", "kind ware", "kind ", "kind ware ax 3 'red' 4 4",
            "kind hand ann 3 4", "kind shop york 3", "fact f1 3 ax york ann 5", "fact f1 3 ax york ann", "fact f1 3", "fact f1",
            "fact f1 3 ax york ann 5 -2 1", "forget f g",
        )

    def test_another_dimension(self):
        self.none(
            "kind till ax 3 'red' 4", "kind till ax 3", "kind  ax 3 'red' 4", "kind Ware ax 3 'red' 4", "kind tint ax 3",
            "kind wares ax 3 'red' 4", "kind ware ax 3 'red' 4; kind till ax 3",
        )

    def test_names_and_keys_that_are_none(self):
        for key in NO_KEYS:
            self.none(
                f"kind ware {key} 3 'red' 4", f"fact {key} 3 ax york ann 5 -2", f"fact f1 3 {key} york ann 5 -2",
                f"fact f1 3 ax york {key} 5 -2", f"forget {key}", f"forget f; forget {key}",
            )

    def test_numbers_that_are_none(self):
        for number in NO_NUMBERS:
            self.none(
                f"kind ware ax {number} 'red' 4", f"fact f1 {number} ax york ann 5 -2", f"fact f1 3 ax york ann {number} -2",
                f"fact f1 3 ax york ann 5 {number}",
            )

    def test_values_that_are_none(self):
        for value in NO_VALUES:
            self.none(f"kind ware ax 3 {value} 4", f"kind ware ax 3 'red' {value}", f"kind shop york 3 {value}")

    def test_one_row_that_is_none_among_others(self):
        self.none("forget f; kind ware ax 3 'red' 4; forget F", "forget F; forget f", "forget f; forget; forget g")

    def test_sixty_figures_and_one_more(self):
        for sign in ("", "-"):
            self.assertEqual(read_rows(PLAN, f"kind hand ann {sign}{'9' * 60}"), [("kind", "hand", "ann", int(sign + "9" * 60), ())])
            self.none(f"kind hand ann {sign}{'9' * 61}", f"kind hand ann {sign}{'1' * 200}")

    def test_seventy_rows(self):
        rows = [("fact", f"f{at}", at, ("ax", "york", "ann"), (at, -at)) for at in range(70)]
        self.assertEqual(read_rows(PLAN, show_rows(rows)), rows)

    def test_lists_are_the_askers_own(self):
        rows = [("forget", "f"), ("forget", "g")]
        show_rows(rows)
        self.assertEqual(rows, [("forget", "f"), ("forget", "g")])
        read_rows(PLAN, "-").append("more")
        self.assertEqual(read_rows(PLAN, "-"), [])

    def test_drawn_rows(self):
        chance = random.Random(17)
        for turn in range(200):
            rows = [drawn_row(chance) for place in range(chance.randrange(6))]
            self.assertEqual(read_rows(PLAN, show_rows(rows)), rows)

    def test_one_sign_changed_writes_none_or_other_rows(self):
        chance = random.Random(18)
        for turn in range(2000):
            text = show_rows([drawn_row(chance) for place in range(chance.randrange(3))])
            at = chance.randrange(len(text) + 1)
            other = text[:at] + chance.choice([" ", ";", "-", "0", "'", "a", "A", "", "~", "; "]) + text[at + chance.randrange(2):]
            try:
                read = read_rows(PLAN, other)
            except NoText as refusal:
                self.assertEqual(refusal.what, other)
            else:
                self.assertEqual(show_rows(read), other)


def drawn_row(chance):
    def number():
        return chance.choice((1, -1)) * chance.randrange(10 ** chance.choice((1, 2, 60)))

    def key():
        return "".join(chance.choice("az09") for sign in range(chance.randint(1, 12)))

    def value():
        return chance.choice((number, key))()

    form = chance.choice(("ware", "shop", "hand", "fact", "forget"))
    if form == "forget":
        return ("forget", key())
    if form == "fact":
        return ("fact", key(), number(), (key(), key(), key()), (number(), number()))
    return ("kind", form, key(), number(), tuple(value() for place in range({"ware": 2, "shop": 1, "hand": 0}[form])))


if __name__ == "__main__":
    unittest.main()
