"""[6] Checks, and of which rows they hold; [2] of anything."""

import itertools
import unittest

from standviews.checks import holds, is_check
from tests.things import Odd, Row, Text, Whole, anything, nested, shown

COLUMNS = (("k", "number"), ("abcdefgh", "name"), ("n", "number"), ("m", "name"))
IS = ("is", "k", 1)
BELOW = ("below", "n", 5)
LIKE = ("like", "k", "n")


class Forms(unittest.TestCase):
    def yes(self, *things):
        for thing in things:
            with self.subTest(thing):
                self.assertIs(is_check(COLUMNS, thing), True)

    def no(self, *things):
        for thing in things:
            if is_check(COLUMNS, thing) is not False:
                self.fail(shown(thing))

    def test_is(self):
        self.yes(IS, ("is", "k", None), ("is", "n", 0), ("is", "abcdefgh", "a"), ("is", "m", None))
        self.no(("is", "k", "a"), ("is", "abcdefgh", 1), ("is", "k", True), ("is", "m", False), ("is", "k", [1]))

    def test_is_at_the_ends_of_worths(self):
        self.yes(("is", "k", 10 ** 9), ("is", "k", -10 ** 9), ("is", "m", "a"), ("is", "m", "abcdefgh"))
        self.no(("is", "k", 10 ** 9 + 1), ("is", "k", -10 ** 9 - 1), ("is", "m", ""), ("is", "m", "abcdefghi"))

    def test_below(self):
        self.yes(BELOW, ("below", "k", 0), ("below", "k", 10 ** 9), ("below", "k", -10 ** 9))
        self.no(("below", "k", 10 ** 9 + 1), ("below", "k", -10 ** 9 - 1), ("below", "k", None), ("below", "k", True),
                ("below", "k", "a"), ("below", "m", 1), ("below", "m", "a"), ("below", "m", None))

    def test_like(self):
        self.yes(LIKE, ("like", "n", "k"), ("like", "k", "k"), ("like", "abcdefgh", "m"), ("like", "m", "m"))
        self.no(("like", "k", "m"), ("like", "abcdefgh", "n"), ("like", "k", "x"), ("like", "x", "k"),
                ("like", "x", "x"), ("like", "k", None), ("like", None, "k"), ("like", None, None))

    def test_columns_that_are_not_there(self):
        self.no(("is", "x", 1), ("is", "x", None), ("below", "x", 1), ("is", "abcdefghi", None), ("is", "", None))

    def test_columns_of_anything(self):
        things = anything() + [0, 1, COLUMNS[0], Text("k"), ["k"], ("k",), b"k"]
        self.no(*[("is", thing, None) for thing in things])
        self.no(*[("below", thing, 1) for thing in things])
        self.no(*[("like", thing, "k") for thing in things])
        self.no(*[("like", "k", thing) for thing in things])
        self.no(*[("like", thing, thing) for thing in things])

    def test_worths_of_anything(self):
        self.no(*[("is", "k", thing) for thing in anything() if thing is not None])
        self.no(*[("is", "m", thing) for thing in anything() if thing is not None])
        self.no(*[("below", "k", thing) for thing in anything()])

    def test_not_and_or(self):
        self.yes(("not", IS), ("and", IS, BELOW), ("or", LIKE, LIKE),
                 ("not", ("and", ("or", IS, LIKE), ("not", BELOW))))

    def test_each_part_is_a_check(self):
        bad = ("is", "k", "a")
        self.no(("not", bad), ("and", bad, IS), ("and", IS, bad), ("or", bad, IS), ("or", IS, bad),
                ("not", ("not", bad)), ("or", IS, ("and", IS, ("not", bad))))
        for thing in anything():
            self.no(("not", thing), ("and", thing, IS), ("and", IS, thing), ("or", thing, IS), ("or", IS, thing))

    def test_tuples_of_another_length(self):
        self.no((), ("is",), ("is", "k"), ("is", "k", 1, 1), ("is", "k", None, None), ("below", "k"),
                ("below", "k", 1, 1), ("like", "k"), ("like", "k", "k", "k"), ("not",), ("not", IS, IS), ("and", IS),
                ("and", IS, IS, IS),
                ("and",), ("or",), ("or", IS), ("or", IS, IS, IS))

    def test_words(self):
        self.no(("Is", "k", 1), ("", "k", 1), ("above", "k", 1), ("nor", IS, IS), ("k", "is", 1), ("xor", IS, BELOW))
        self.no(*[(thing, "k", 1) for thing in anything()], *[(thing, IS) for thing in anything()],
                *[(thing, IS, IS) for thing in anything()], *[(thing,) for thing in anything()])

    def test_lists_and_objects_are_none(self):
        self.no(list(IS), ("not", list(IS)), ["not", IS], Row(IS), ("not", Row(IS)), (Text("is"), "k", 1),
                (Text("not"), IS), ("is", Text("k"), 1), ("is", "k", Whole(1)), ("is", "m", Text("a")),
                ("below", "k", Whole(1)), (Odd(), IS))

    def test_nested_deep(self):
        self.yes(nested(IS, lambda x: ("not", x), 11), nested(IS, lambda x: ("not", x), 19))
        self.yes(nested(IS, lambda x: ("and", x, BELOW), 5), nested(IS, lambda x: ("or", LIKE, x), 5))
        self.no(nested(None, lambda x: ("not", x), 20), nested(IS, lambda x: ["not", x], 19),
                nested(IS, lambda x: (x,), 20), nested(IS, lambda x: ("and", IS, [x]), 10))

    def test_of_anything(self):
        self.no(*anything())

    def test_columns_that_are_of_one(self):
        self.assertIs(is_check((("a", "name"),), ("is", "a", "b")), True)
        self.assertIs(is_check((("a", "name"),), IS), False)

    def test_what_is_handed_in_stays(self):
        inner = ["is", "k", 1]
        thing = ["not", inner]
        self.no(thing, ("not", inner), ("is", "k", inner))
        self.assertEqual(thing, ["not", ["is", "k", 1]])


class Holding(unittest.TestCase):
    def all_of(self, check, *rows):
        for row in rows:
            with self.subTest(row):
                self.assertIs(holds(COLUMNS, check, row), True)

    def none_of(self, check, *rows):
        for row in rows:
            with self.subTest(row):
                self.assertIs(holds(COLUMNS, check, row), False)

    def test_is(self):
        self.all_of(IS, (1, "a", 2, "b"), (1, None, None, None))
        self.none_of(IS, (2, "a", 1, "b"), (-1, "a", 1, "b"), (None, "a", 1, "b"))
        self.all_of(("is", "m", "b"), (1, "a", 2, "b"))
        self.none_of(("is", "m", "b"), (1, "b", 2, "a"), (1, "b", 2, "bb"), (1, "b", 2, None))

    def test_is_none(self):
        self.all_of(("is", "n", None), (1, "a", None, "b"))
        self.none_of(("is", "n", None), (1, "a", 0, "b"), (1, None, 2, None))
        self.all_of(("is", "m", None), (1, "a", 2, None))
        self.none_of(("is", "m", None), (1, None, None, "a"))
        self.none_of(("is", "n", 0), (0, "a", None, "b"))

    def test_below(self):
        self.all_of(BELOW, (9, "a", 4, "b"), (9, "a", -10 ** 9, "b"))
        self.none_of(BELOW, (1, "a", 5, "b"), (1, "a", 6, "b"), (1, "a", 10 ** 9, "b"))
        self.all_of(("below", "n", 10 ** 9), (1, "a", 10 ** 9 - 1, "b"))
        self.none_of(("below", "n", 10 ** 9), (1, "a", 10 ** 9, "b"))
        self.none_of(("below", "n", -10 ** 9), (1, "a", -10 ** 9, "b"))

    def test_none_is_below_nothing(self):
        self.none_of(BELOW, (1, "a", None, "b"))
        self.none_of(("below", "n", 10 ** 9), (1, "a", None, "b"))

    def test_sums_may_be_greater(self):
        self.all_of(("below", "n", -10 ** 9), (1, "a", -10 ** 15, "b"))
        self.none_of(("below", "n", 10 ** 9), (1, "a", 10 ** 15, "b"))
        self.all_of(LIKE, (10 ** 15, "a", 10 ** 15, "b"))

    def test_like(self):
        self.all_of(LIKE, (1, "a", 1, "b"), (0, "a", 0, None))
        self.none_of(LIKE, (1, "a", 2, "a"), (1, "a", -1, "a"))
        self.all_of(("like", "abcdefgh", "m"), (1, "a", 2, "a"))
        self.none_of(("like", "abcdefgh", "m"), (1, "a", 1, "b"), (1, "a", 1, "aa"))

    def test_none_is_like_nothing(self):
        self.none_of(LIKE, (None, "a", None, "a"), (1, "a", None, "a"), (None, "a", 1, "a"))
        self.none_of(("like", "n", "n"), (1, "a", None, "a"))
        self.all_of(("like", "n", "n"), (1, "a", 2, "a"))

    def test_not_and_or(self):
        a, b = ("is", "k", 1), ("is", "m", "b")
        for left, right in itertools.product((True, False), repeat=2):
            row = (1 if left else 2, "x", 0, "b" if right else None)
            with self.subTest(row):
                self.assertIs(holds(COLUMNS, ("not", a), row), not left)
                self.assertIs(holds(COLUMNS, ("not", b), row), not right)
                self.assertIs(holds(COLUMNS, ("and", a, b), row), left and right)
                self.assertIs(holds(COLUMNS, ("or", a, b), row), left or right)
                self.assertIs(holds(COLUMNS, ("and", ("not", a), ("or", b, a)), row), not left and right)
                self.assertIs(holds(COLUMNS, ("or", ("not", a), ("and", b, a)), row), not left or right)

    def test_not_of_what_holds_not_of_none(self):
        self.all_of(("not", BELOW), (1, "a", None, "b"))
        self.all_of(("not", LIKE), (None, "a", None, "b"))
        self.none_of(("not", ("is", "n", None)), (1, "a", None, "b"))

    def test_nested_deep(self):
        self.all_of(nested(IS, lambda x: ("not", x), 10), (1, "a", 2, "b"))
        self.none_of(nested(IS, lambda x: ("not", x), 11), (1, "a", 2, "b"))


if __name__ == "__main__":
    unittest.main()
