"""[5] Columns, tables, plans and rows; [2] of anything."""

import unittest

from standviews.plans import is_plan, is_row
from tests.things import Odd, Row, Text, Whole, anything, nested, shown

NUMBER, NAME = "number", "name"
PLAN = (
    ("abcdefgh", (("n", NAME),)),
    ("one", (("k", NUMBER), ("abcdefgh", NAME), ("n", NUMBER))),
    ("two", (("key", NAME), ("n", NUMBER))),
)


def of_column(column):
    return (("t", (column,)),)


class Plans(unittest.TestCase):
    def yes(self, *things):
        for thing in things:
            with self.subTest(thing):
                self.assertIs(is_plan(thing), True)

    def no(self, *things):
        for thing in things:
            if is_plan(thing) is not False:
                self.fail(shown(thing))

    def test_plans(self):
        self.yes(PLAN, PLAN[:1], PLAN[1:], (PLAN[0], PLAN[2]), of_column(("c", NUMBER)), of_column(("c", NAME)))

    def test_two_tables_may_have_columns_alike(self):
        self.yes((("a", (("k", NUMBER),)), ("b", (("k", NUMBER),))))

    def test_tables_rise_by_names_that_are_unlike(self):
        columns = (("k", NUMBER),)
        other = (("j", NAME),)
        self.yes((("a", columns), ("aa", columns), ("ab", columns), ("b", columns)))
        self.no((("b", columns), ("a", columns)), (("a", columns), ("c", columns), ("b", columns)),
                (("aa", columns), ("a", columns)), (("a", columns), ("a", columns)), (("a", other), ("a", columns)))

    def test_there_is_a_table_and_a_column(self):
        self.no((), (("a", ()),), (("a", (("k", NUMBER),)), ("b", ())))

    def test_names_of_tables(self):
        columns = (("k", NUMBER),)
        self.yes((("z", columns),), (("abcdefgh", columns),))
        self.no(*[((name, columns),) for name in anything() + ["abcdefghi", 1, ("a",)]])

    def test_names_of_columns(self):
        self.yes(of_column(("z", NAME)), of_column(("abcdefgh", NAME)))
        self.no(*[of_column((name, NAME)) for name in anything() + ["abcdefghi", 1]])
        self.no((("t", (("k", NUMBER), ("", NUMBER))),))

    def test_names_of_columns_are_unlike(self):
        self.no((("t", (("k", NUMBER), ("k", NUMBER))),), (("t", (("k", NUMBER), ("l", NUMBER), ("k", NAME))),))

    def test_columns_need_not_rise(self):
        self.yes((("t", (("c", NUMBER), ("a", NAME), ("b", NUMBER))),))

    def test_kinds(self):
        self.no(*[of_column(("c", kind)) for kind in anything() + ["numbers", "Name", 1, Text(NUMBER), Text(NAME)]])

    def test_tuples_of_another_length(self):
        self.no(of_column(("c",)), of_column(("c", NAME, NAME)), of_column(("c", NAME, None)), of_column(()),
                (("t",),), (("t", (("c", NAME),), ()),), ((),))

    def test_lists_are_no_tuples(self):
        self.no([("t", (("c", NAME),))], (["t", (("c", NAME),)],), (("t", [("c", NAME)]),), (("t", (["c", NAME],)),))

    def test_objects_are_none_of_these(self):
        self.no(Row(PLAN), (Row(("t", (("c", NAME),))),), (("t", Row((("c", NAME),))),), of_column(Row(("c", NAME))),
                ((Text("t"), (("c", NAME),)),), of_column((Text("c"), NAME)))

    def test_a_table_or_a_text_is_no_plan(self):
        self.no(PLAN[0], "t", ("t", (("c", NAME),)), ("ab", "cd"), (("t", "ab"),))

    def test_of_anything(self):
        self.no(*anything())
        self.no(*[(thing,) for thing in anything()])
        self.no(*[PLAN[:1] + (thing,) for thing in anything()])
        self.no(*[(("t", thing),) for thing in anything()])
        self.no(*[(("t", (thing,)),) for thing in anything()])
        self.no(*[(("t", (("c", NAME), thing)),) for thing in anything()])
        self.no(nested(PLAN, lambda x: (x,)), nested(PLAN, lambda x: ("t", x)))

    def test_what_is_handed_in_stays(self):
        inner = ["c", NAME]
        thing = [("t", [inner])]
        self.no(thing, (("t", [inner]),))
        self.assertEqual((thing, inner), ([("t", [["c", "name"]])], ["c", "name"]))


class Rows(unittest.TestCase):
    def yes(self, table, *things):
        for thing in things:
            with self.subTest(thing):
                self.assertIs(is_row(PLAN, table, thing), True)

    def no(self, table, *things):
        for thing in things:
            if is_row(PLAN, table, thing) is not False:
                self.fail(shown(thing))

    def test_rows(self):
        self.yes("one", (1, "a", 2), (0, "abcdefgh", 0), (-1, "z", -1))
        self.yes("two", ("a", 1))
        self.yes("abcdefgh", ("a",), ("abcdefgh",))

    def test_none_fits_all_but_the_key(self):
        self.yes("one", (1, None, 2), (1, "a", None), (1, None, None))
        self.yes("two", ("a", None))
        self.no("one", (None, "a", 2), (None, None, None))
        self.no("two", (None, 1))
        self.no("abcdefgh", (None,))

    def test_numbers_at_their_ends(self):
        self.yes("one", (10 ** 9, "a", -10 ** 9), (-10 ** 9, "a", 10 ** 9))
        self.no("one", (10 ** 9 + 1, "a", 0), (-10 ** 9 - 1, "a", 0), (0, "a", 10 ** 9 + 1), (0, "a", -10 ** 9 - 1))

    def test_names_at_their_ends(self):
        self.no("one", (1, "abcdefghi", 2), (1, "", 2), (1, "A", 2))
        self.no("abcdefgh", ("abcdefghi",), ("",))

    def test_worths_of_the_other_kind(self):
        self.no("one", ("a", "a", 2), (1, 1, 2), (1, "a", "a"))
        self.no("two", (1, 1), ("a", "a"))

    def test_truths_are_no_numbers(self):
        self.no("one", (True, "a", 2), (False, "a", 2), (1, "a", True), (1, True, 2))
        self.no("two", (True, 1), ("a", False))

    def test_rows_of_another_length(self):
        self.no("one", (), (1,), (1, "a"), (1, "a", 2, 3), (1, "a", 2, None))
        self.no("abcdefgh", (), ("a", "a"))

    def test_lists_and_objects_are_no_rows(self):
        self.no("one", [1, "a", 2], Row((1, "a", 2)), (Whole(1), "a", 2), (1, Text("a"), 2), (1, ["a"], 2))
        self.no("abcdefgh", "a", ["a"], {"a": 1})

    def test_a_table_that_is_not_there(self):
        self.no("three", (1, "a", 2), ("a",))
        self.no("on", (1, "a", 2))
        self.no("n", ("a",))

    def test_a_table_of_anything(self):
        for table in anything() + [0, 1, PLAN[1], PLAN, Text("one"), ["one"], ("one",), b"one", Odd()]:
            self.no(table, (1, "a", 2), ("a", 1), ("a",), (), None)

    def test_of_anything(self):
        for table in ("one", "two"):
            self.no(table, *anything())
        self.no("one", *[(thing, "a", 2) for thing in anything()])
        self.no("one", *[(1, thing, 2) for thing in anything() if thing is not None])
        self.no("one", *[(1, "a", thing) for thing in anything() if thing is not None])
        self.no("one", nested((1, "a", 2), lambda x: (x,)), nested((1, "a", 2), lambda x: (1, "a", x)))

    def test_what_is_handed_in_stays(self):
        row = [1, ["a"], 2]
        self.no("one", row, tuple(row))
        self.assertEqual(row, [1, ["a"], 2])


if __name__ == "__main__":
    unittest.main()
