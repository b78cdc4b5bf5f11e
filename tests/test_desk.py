"""[18], [19]: the desk's rows, their answers, their refusals, and the book."""

import unittest

from kindsofday import errors
from kindsofday.desk import Desk
from kindsofday.errors import (
    NoDeskRow, NoFact, NoGroup, NoMeasure, NoText, NoThing, NoTime, NoWatch, Twice,
)
from tests.refusing import Refusing

FAR = 10 ** 60 - 1
WIDE = "plan dim ware tint:day shelf:before; dim shop size:last; dim hand; sum coins hours"


def told(*rows):
    """A desk that was told these rows."""
    desk = Desk()
    for row in rows:
        desk.say(row)
    return desk


class Answers(unittest.TestCase):

    def check(self, *pairs):
        """Tell a desk rows one by one, and hold its answers and its book against these."""
        desk = Desk()
        for row, answer in pairs:
            self.assertEqual((row, desk.say(row)), (row, answer))
        self.assertEqual(desk.book(), [(row, answer, None) for row, answer in pairs])
        return desk

    def test_a_new_desk(self):
        self.check(
            ("rows", "0"), ("facts", "none"), ("news", "none"), ("known 0", "0"), ("tell -", "none"), ("rows", "0"),
        )
        self.assertEqual(Desk().book(), [])

    def test_the_plan_at_first(self):
        self.check(
            ("tell kind ware ax 5 'red'; fact f 6 ax 10", "kind 2 0 0; fact 0 0 2"), ("watch w coins ware.kind", "ok"),
            ("sums w", "'red':1:10"), ("versions ware ax", "1:-:5:- 2:5:-:'red'"),
        )

    def test_tell(self):
        self.check(
            (WIDE, "ok"),
            ("tell fact f 6 ax york ann 1 2", "fact 3 0 1 2 3"),
            ("tell kind ware ax 5 'red' 7", "kind 1 0 1"),
            ("tell kind ware ax 5 'blue' 7; kind ware ax 3 'blue' 8; fact g 2 ax york bob 3 4; fact f 2 bo york bob 3 -4",
             "kind 0 0 0; kind 1 1 1; fact 1 0 1 2 6; fact 1 1 7 2 6"),
            ("tell forget f; forget g", "forget 1; forget 2"),
            ("tell fact f 6 ax york ann 1 2; forget f", "fact 2 0 5 8 9; forget 2"),
            ("rows", "10"),
            ("tell -", "none"),
            ("rows", "10"),
        )

    def test_versions(self):
        self.check(
            (WIDE, "ok"),
            ("tell fact f 6 ax york ann 1 2; kind ware ax -5 'red' 7; kind ware ax 8 12 's'; kind shop york 1 -3",
             "fact 3 0 1 2 3; kind 1 0 1; kind 1 0 0; kind 1 0 1"),
            ("versions ware ax", "1:-:-5:-,'s'|7 4:-5:8:'red','s'|7 5:8:-:12,'s'|7"),
            ("versions shop york", "2:-:1:-3 6:1:-:-3"),
            ("versions hand ann", "3:-:-:-"),
            ("tell kind hand ann 0", "kind 1 0 1"),
            ("versions hand ann", "3:-:0:- 7:0:-:-"),
            ("tell fact g 1 bo 7 ann 1 1", "fact 2 0 8 9 7"),
            ("versions ware bo", "8:-:-:-,-|-"),
            ("versions shop 7", "9:-:-:-"),
            ("tell kind ware bo 0 '1' 'x'", "kind 1 0 1"),
            ("versions ware bo", "8:-:0:-,'x'|- 10:0:-:'1','x'|-"),
        )

    def test_far_days_and_numbers(self):
        self.check(
            (f"tell kind ware 7 -{FAR} {FAR}; fact 7 {FAR} 7 -{FAR}", "kind 2 0 0; fact 0 0 2"),
            ("versions ware 7", f"1:-:-{FAR}:- 2:-{FAR}:-:{FAR}"),
            ("watch w coins", "ok"), ("sums w", f"-:1:-{FAR}"),
            (f"since ware 7 {FAR} kind", "1"), (f"since ware 7 -{FAR} kind", "1"),
        )

    def test_facts(self):
        self.check(
            (WIDE, "ok"), ("facts", "none"),
            ("tell fact b 6 ax york ann 1 2; fact 10 7 ax york bob 1 2; kind ware ax 7 1 1", "fact 3 0 1 2 3; fact 1 0 1 2 4; kind 1 0 1"),
            ("facts", "10:5,2,4 b:1,2,3"),
            ("plan dim ware", "ok"), ("facts", "none"), ("tell fact f 1 ax", "fact 1 0 1"), ("facts", "f:1"),
        )

    def test_watches_sums_and_news(self):
        self.check(
            (WIDE, "ok"), ("watch all -", "ok"), ("watch w coins ware.tint", "ok"), ("sums w", "none"), ("sums all", "none"),
            ("news", "none"),
            ("tell fact f 6 ax york ann 1 2; fact g 9 ax york ann 10 20", "fact 3 0 1 2 3; fact 0 0 1 2 3"),
            ("sums w", "-:2:11"), ("sums all", "-:2:0"), ("news", "all:-:2:0 w:-:2:11"),
            ("tell kind ware ax 8 'red' 7", "kind 1 0 1"),
            ("sums w", "'red':1:10 -:1:1"), ("news", "w:'red':1:10 w:-:1:1"),
            ("watch v hours ware.shelf shop.size ware.tint ware.tint", "ok"), ("news", "w:'red':1:10 w:-:1:1"),
            ("sums v", "7|-,-,'red','red':1:20 7|-,-,-,-:1:2"),
            ("tell kind shop york 3 -4", "kind 1 0 2"),
            ("news", "v:7|-,-4,'red','red':1:20 v:7|-,-4,-,-:1:2 v:7|-,-,'red','red':0:0 v:7|-,-,-,-:0:0"),
            ("tell forget f", "forget 0"), ("sums w", "'red':1:10"),
            ("news", "all:-:1:0 w:-:0:0 v:7|-,-4,-,-:0:0"),
            ("tell kind hand zoe 1", "kind 2 0 0"), ("news", "none"),
        )

    def test_news_are_of_the_last_of_several_rows(self):
        self.check(
            ("watch w coins", "ok"), ("tell fact f 1 ax 5; fact g 1 ax 6", "fact 1 0 1; fact 0 0 1"), ("news", "w:-:2:11"),
            ("tell fact f 1 ax 7; kind ware zz 1 1", "fact 0 0 1; kind 2 0 0"), ("news", "none"),
        )

    def test_tell_of_no_rows_leaves_the_news(self):
        self.check(
            ("watch w coins", "ok"), ("tell fact f 1 ax 5", "fact 1 0 1"), ("watch v coins", "ok"), ("tell -", "none"),
            ("news", "w:-:1:5"),
        )

    def test_known(self):
        self.check(
            (WIDE, "ok"),
            ("tell fact f 6 ax york ann 1 2; kind ware ax 3 1 1; kind shop york 3 1; forget f; kind ware ax 2 1 1",
             "fact 3 0 1 2 3; kind 1 0 1; kind 1 0 1; forget 1; kind 1 1 0"),
            ("known 0", "0"), ("known 1", "3"), ("known 2", "4"), ("known 3", "5"), ("known 4", "4"), ("known 5", "4"),
        )

    def test_since(self):
        self.check(
            ("tell fact f 6 ax 1; kind ware ax 3 'red'; kind ware ax 5 'blue'; kind ware ax 3 'red'",
             "fact 1 0 1; kind 1 0 1; kind 1 0 1; kind 0 0 0"),
            ("since ware ax 2 kind", "0"), ("since ware ax 3 kind", "2"), ("since ware ax 5 kind", "3"),
            ("since ware ax -5 kind", "0"), ("since ware ax 0 kind", "0"),
        )

    def test_a_new_plan_begins_a_new_house(self):
        desk = self.check(
            ("tell fact f 6 ax 1", "fact 1 0 1"), ("watch w coins", "ok"), ("rows", "1"),
            ("plan dim ware kind:day; sum coins", "ok"), ("rows", "0"), ("facts", "none"), ("known 0", "0"), ("news", "none"),
            ("watch w coins", "ok"), ("tell fact f 6 ax 1", "fact 1 0 1"), ("sums w", "-:1:1"),
        )
        self.assertEqual(len(desk.book()), 11)

    def test_names_and_keys_of_all_lengths(self):
        self.check(
            ("plan dim abcdefgh abcdefgh:day; sum abcdefgh", "ok"),
            ("tell fact 012345678901 0 abcdefghijkl 0; fact a 0 0 0", "fact 1 0 1; fact 1 0 2"),
            ("watch abcdefgh abcdefgh abcdefgh.abcdefgh", "ok"), ("versions abcdefgh abcdefghijkl", "1:-:-:-"),
            ("versions abcdefgh 0", "2:-:-:-"), ("sums abcdefgh", "-:2:0"), ("since abcdefgh 0 0 abcdefgh", "0"),
        )

    def test_by_name_and_kinds_of_values(self):
        desk = Desk()
        self.assertEqual(desk.say(row="rows"), "0")
        for row in ("rows", "known 0", "tell fact f 1 ax 1", "since ware ax 1 kind", "facts"):
            self.assertIs(type(desk.say(row)), str)
        self.assertIs(type(desk.book()), list)
        self.assertEqual([type(entry) for entry in desk.book()], [tuple] * 6)


NO_ROWS = (
    "", " ", "hello", "Rows", "ROWS", "row", " rows", "rows ", "rows 1", "rows -", "facts ", "facts f", "fact f 1 ax 1", "news ",
    "news w", "new", "plan", "tell", "plans dim ware", "plandim ware", "Plan dim ware", "tell;", "-", "none", ";",
    "kind ware ax 5 'red'", "forget f", "rows; rows", "rows\n",
    "versions", "versions ", "versions ware", "versions ware ", "versions  ax", "versions ware ax ", "versions ware  ax",
    "versions ware ax 1", "versions ware Ax", "versions ware a-x", "versions ware abcdefghijklm", "versions ware 'ax'",
    "versions Ware ax", "versions abcdefghi ax", "versions w1 ax", "versions - ax", "versions ware -", "version ware ax",
    "sums", "sums ", "sums W", "sums w ", "sums w w", "sums  w", "sums w1", "sums abcdefghi", "sums -", "sum w",
    "known", "known ", "known a", "known 01", "known -0", "known +1", "known 1 ", "known  1", "known 1 1", "known -", "known 1.0",
    "known '1'", "known " + "1" * 61, "known -" + "1" * 61, "known 00",
    "since", "since ware ax 1", "since ware ax 1 kind ", "since ware ax 1 kind kind", "since ware ax kind", "since ware ax a kind",
    "since ware ax 01 kind", "since ware ax -0 kind", "since ware ax +1 kind", "since ware ax " + "9" * 61 + " kind",
    "since ware ax 1 Kind", "since ware ax 1 ", "since ware ax 1 -", "since ware ax 1 abcdefghi", "since ware Ax 1 kind",
    "since ware  1 kind", "since Ware ax 1 kind", "since  ax 1 kind", "since ware ax  kind",
    "watch", "watch ", "watch w", "watch w ", "watch w  ware.kind", "watch  - ware.kind", "watch - - ware.kind", "watch w - ",
    "watch W -", "watch w1 -", "watch abcdefghi -", "watch w Coins", "watch w c1", "watch w abcdefghi", "watch w -- ware.kind",
    "watch w - ware", "watch w - ware.", "watch w - .kind", "watch w - .", "watch w - ware.kind.", "watch w - ware.kind.kind",
    "watch w - ware:kind", "watch w - Ware.kind", "watch w - ware.Kind", "watch w - ware.k1", "watch w - abcdefghi.kind",
    "watch w - ware.kind ", "watch w -  ware.kind", "watch w - ware.kind,ware.kind", "watch w - -", "watch w ware.kind",
    "watch w - ware.kind ware.kind ware.kind ware.kind ware.kind", "watch w coins ware.kind ware",
)


class Refusals(Refusing, unittest.TestCase):

    SETUP = ("tell fact f 6 ax 1; kind ware ax 3 'red'", "watch w coins ware.kind", "tell fact g 1 ax 5")
    ASKED = ("rows", "facts", "sums w", "news", "versions ware ax", "known 2", "since ware ax 3 kind")

    def refused_and_booked(self, refusal, what, row):
        """The row is refused, stands in the book, and leaves the house as it was."""
        desk = told(*self.SETUP)
        with self.subTest(row=row):
            self.refused(refusal, what, desk.say, row)
            self.assertEqual(desk.book()[3:], [(row, None, refusal.__name__)])
            expected = told(*self.SETUP)
            self.assertEqual([desk.say(asked) for asked in self.ASKED], [expected.say(asked) for asked in self.ASKED])
            self.assertEqual(len(desk.book()), 4 + len(self.ASKED))

    def test_whatever_is_no_such_row(self):
        for row in NO_ROWS:
            self.refused_and_booked(NoDeskRow, row, row)

    def test_plans_that_are_none(self):
        for text in ("", " ", " dim ware", "dim ware ", "dim", "dim Ware", "dim ware; dim ware", "-", "sum coins", "dim ware kind:none"):
            self.refused_and_booked(NoText, text, "plan " + text)

    def test_rows_of_rows_that_are_none(self):
        for text in (
            "", " ", " -", "- ", "--", "forget", "forget f ", " forget f", "forget  f", "forget f;", "forget f;forget f",
            "kind shop ax 3 'red'", "kind ware ax 3 red", "kind ware ax 3", "kind ware ax 3 'red' 'red'", "fact f 1 ax", "fact f 1 ax 1 1",
            "fact f 01 ax 1", "kind ware ax " + "1" * 61 + " 'red'", "kind ware Ax 1 'red'", "forget f; -", "forget x; forget",
        ):
            self.refused_and_booked(NoText, text, "tell " + text)

    def test_rows_are_read_by_the_house_of_now(self):
        desk = told("plan dim shop; dim hand")
        self.refused(NoText, "kind ware ax 3 'red'", desk.say, "tell kind ware ax 3 'red'")
        self.assertEqual(desk.say("tell kind shop ax 3; fact f 1 ax bo"), "kind 2 0 0; fact 1 0 1 3")

    def test_facts_that_are_not_there(self):
        for text, name in (
            ("forget x", "x"), ("forget f; forget f", "f"), ("fact h 1 bo 1; forget x; forget y", "x"),
            ("kind ware ax 5 'blue'; forget f; forget f; forget g", "f"), ("forget x; fact x 1 ax 1", "x"),
            ("fact x 1 ax 1; forget x; forget x", "x"),
        ):
            self.refused_and_booked(NoFact, name, "tell " + text)

    def test_a_refused_tell_takes_no_numbers(self):
        desk = told(*self.SETUP)
        self.refused(NoFact, "x", desk.say, "tell fact h 1 bo 1; fact i 1 cy 1; kind ware ax 9 'blue'; forget x")
        self.assertEqual(desk.say("tell fact h 1 bo 1"), "fact 1 0 3")
        self.assertEqual(desk.say("rows"), "4")

    def test_things_that_are_not_known(self):
        self.refused_and_booked(NoThing, ("ware", "bo"), "versions ware bo")
        self.refused_and_booked(NoThing, ("shop", "ax"), "versions shop ax")
        self.refused_and_booked(NoThing, ("ware", "bo"), "since ware bo 3 kind")
        self.refused_and_booked(NoThing, ("shop", "ax"), "since shop ax 3 none")
        self.refused_and_booked(NoGroup, ("ware", "none"), "since ware ax 3 none")

    def test_watches(self):
        self.refused_and_booked(Twice, "w", "watch w -")
        self.refused_and_booked(Twice, "w", "watch w grams till.kind")
        self.refused_and_booked(NoGroup, ("till", "kind"), "watch v grams ware.kind till.kind ware.none")
        self.refused_and_booked(NoGroup, ("ware", "coins"), "watch v coins ware.coins")
        self.refused_and_booked(NoMeasure, "grams", "watch v grams ware.kind")
        self.refused_and_booked(NoMeasure, "ware", "watch v ware")
        self.refused_and_booked(NoWatch, "v", "sums v")

    def test_times(self):
        for many in (-1, 4, 70, FAR, -FAR):
            self.refused_and_booked(NoTime, many, f"known {many}")

    def test_no_row_goes_ahead_of_what_stages_refuse(self):
        for row in ("versions shop Ax", "watch w Grams", "watch w grams till", "since shop bo 3 Kind", "sums V", "known 0099"):
            self.refused_and_booked(NoDeskRow, row, row)

    def test_no_text_goes_ahead_of_what_stages_refuse(self):
        self.refused_and_booked(NoText, "forget x; forget X", "tell forget x; forget X")


class Book(unittest.TestCase):

    def test_one_tuple_more_behind_each_row(self):
        desk = Desk()
        entries = []
        for row, answer, refusal in (
            ("rows", "0", None), ("row", None, "NoDeskRow"), ("plan dim", None, "NoText"), ("tell forget f", None, "NoFact"),
            ("versions ware ax", None, "NoThing"), ("watch w -", "ok", None), ("watch w -", None, "Twice"),
            ("watch v - ware.none", None, "NoGroup"), ("watch v none", None, "NoMeasure"), ("sums v", None, "NoWatch"),
            ("known 1", None, "NoTime"), ("tell fact f 1 ax 1; forget x", None, "NoFact"), ("", None, "NoDeskRow"),
            ("tell ", None, "NoText"), ("tell fact f 1 ax 1; forget f", "fact 1 0 1; forget 1", None),
        ):
            if refusal is None:
                self.assertEqual(desk.say(row), answer)
            else:
                self.assertRaises(getattr(errors, refusal), desk.say, row)
            entries.append((row, answer, refusal))
            self.assertEqual(desk.book(), entries)

    def test_the_book_is_the_askers_own(self):
        desk = told("rows")
        book = desk.book()
        book.clear()
        self.assertEqual(desk.book(), [("rows", "0", None)])
        book = desk.book()
        desk.say("facts")
        self.assertEqual(book, [("rows", "0", None)])

    def test_a_new_plan_leaves_the_book(self):
        self.assertEqual(told("rows", "plan dim ware").book(), [("rows", "0", None), ("plan dim ware", "ok", None)])

    def test_two_desks_know_nothing_of_each_other(self):
        one, two = Desk(), Desk()
        one.say("tell fact f 1 ax 1")
        one.say("watch w -")
        self.assertEqual(two.book(), [])
        self.assertEqual([two.say(row) for row in ("rows", "facts", "tell fact f 1 bo 1", "facts", "watch w -")],
                         ["0", "none", "fact 1 0 1", "f:1", "ok"])
        self.assertEqual(one.say("facts"), "f:1")
        self.assertEqual(len(one.book()), 3)
        one.say("plan dim shop")
        self.assertEqual(two.say("rows"), "1")


if __name__ == "__main__":
    unittest.main()
